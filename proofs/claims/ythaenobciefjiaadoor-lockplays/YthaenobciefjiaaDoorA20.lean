/- Release. -/
import Derived.Test.YthaenobciefjiaaDoorA19
namespace Go.Proofs.YthaenobciefjiaaDoor
open Go.RowKit Go.Maps Go.ChangeMaps Go.MapKept Go.Sort Go.Shelf

namespace Lk
/-- Who stands in a queue waits, and stands there once. -/
structure Wq (s : St) : Prop where
  w : ∀ nm h, h ∈ s.q nm → ∃ m, s.want h = some (nm, m) ∧ 1 ≤ m ∧ m ≤ 8
  d : ∀ nm, (s.q nm).Nodup
theorem Serve.wq {nm : Bytes} {s : St} {l : List Int} {s' : St} {L : List Int} (h : Serve nm s l s' L) : Wq s → (∀ x ∈ l, ∃ m, s.want x = some (nm, m) ∧ 1 ≤ m ∧ m ≤ 8) → l.Nodup → (∀ x ∈ l, x ∉ s.q nm) → Wq s' ∧ ∀ n, n ≠ nm → s'.q n = s.q n := by
  induction h with
  | nil s => exact fun h _ _ _ => ⟨h, fun _ _ => rfl⟩
  | @wait s x m l s' L hm hb hs ih =>
    intro hW hl hd hq
    obtain ⟨h1, h2⟩ := List.nodup_cons.1 hd
    have hx := hl x (List.mem_cons_self ..)
    have hxq := hq x (List.mem_cons_self ..)
    obtain ⟨i1, i2⟩ := ih ⟨fun n h hh => by
      have hh' : h ∈ (if n = nm then s.q nm ++ [x] else s.q n) := hh
      by_cases e : n = nm
      · rw [if_pos e] at hh'
        rcases List.mem_append.1 hh' with h3 | h3
        · rw [e]; exact hW.w nm h h3
        · rw [List.mem_singleton.1 h3, e]; exact hx
      · rw [if_neg e] at hh'; exact hW.w n h hh', fun n => by
      show (if n = nm then s.q nm ++ [x] else s.q n).Nodup
      by_cases e : n = nm
      · rw [if_pos e]
        exact List.nodup_append.2 ⟨hW.d nm, List.nodup_cons.2 ⟨by simp, List.nodup_nil⟩, fun a ha b hb' e2 => hxq (by rw [← List.mem_singleton.1 hb', ← e2]; exact ha)⟩
      · rw [if_neg e]; exact hW.d n⟩ (fun y hy => hl y (List.mem_cons_of_mem _ hy)) h2 (fun y hy hh => by
      have hh' : y ∈ (if nm = nm then s.q nm ++ [x] else s.q nm) := hh
      rw [if_pos rfl] at hh'
      rcases List.mem_append.1 hh' with h3 | h3
      · exact hq y (List.mem_cons_of_mem _ hy) h3
      · rw [List.mem_singleton.1 h3] at hy; exact h1 hy)
    exact ⟨i1, fun n hn => (i2 n hn).trans (if_neg hn)⟩
  | @get s x m l s' L hm hb hs ih =>
    intro hW hl hd hq
    obtain ⟨h1, h2⟩ := List.nodup_cons.1 hd
    have hxq := hq x (List.mem_cons_self ..)
    have keep : ∀ y, y ≠ x → (gotS s x nm m).want y = s.want y := fun y hy => if_neg hy
    obtain ⟨i1, i2⟩ := ih ⟨fun n h hh => by
      have hh' : h ∈ s.q n := hh
      obtain ⟨m', h3, h4⟩ := hW.w n h hh'
      refine ⟨m', ?_, h4⟩
      rw [keep h (fun e => ?_)]
      · exact h3
      · rw [e, hm] at h3
        injection h3 with h3
        injection h3 with h3
        rw [e, ← h3] at hh'
        exact hxq hh', hW.d⟩ (fun y hy => by
      obtain ⟨m', h3, h4⟩ := hl y (List.mem_cons_of_mem _ hy)
      exact ⟨m', by rw [keep y (fun e => h1 (by rw [← e]; exact hy))]; exact h3, h4⟩) h2 (fun y hy => hq y (List.mem_cons_of_mem _ hy))
    exact ⟨i1, i2⟩

/-- Through the names. -/
inductive Rel : St → List Bytes → St → List Int → Prop
  | nil (s : St) : Rel s [] s []
  | cons {s : St} {nm : Bytes} {r : List Bytes} {s1 s2 : St} {L1 L2 : List Int} : Serve nm (emptyS s nm) (s.q nm) s1 L1 → Rel s1 r s2 L2 → Rel s (nm :: r) s2 (L1 ++ L2)
def tot (q : Bytes → List Int) (L : List Bytes) : Nat := (L.map fun n => (q n).length).sum
theorem tot_take {q : Bytes → List Int} {L : List Bytes} {k : Nat} {nm : Bytes} (h : L[k]? = some nm) : tot q (L.take (k + 1)) = tot q (L.take k) + (q nm).length := by
  have e : L.take (k + 1) = L.take k ++ [nm] := by rw [List.take_add_one, h]; rfl
  unfold tot
  rw [e]; simp
theorem tot_mono (q : Bytes → List Int) (L : List Bytes) (k : Nat) : tot q (L.take k) ≤ tot q L := by
  have e : tot q L = tot q (L.take k) + tot q (L.drop k) := by
    unfold tot
    rw [← List.sum_append, ← List.map_append, List.take_append_drop]
  omega
theorem row_cellsV {W : World} {base n g cap : Nat} {e : TypeId} {xs : List Value} (h : W.ownsRow base e 1 (.slice (some ⟨g, 0, none⟩) n cap) n xs) : ∀ k u, k < n → xs[k]? = some u → W.cell? ⟨g, k, none⟩ = some u := fun k u hk1 hk => by
  rcases h.2 with ⟨e, _⟩ | ⟨g', cap', cur, esl, _, hgb, q1, q2, q3, q4⟩
  · cases e
  · injection esl with e1 e2 e3
    injection e1 with e1
    injection e1 with e1
    subst e1
    simp only [Nat.mul_one] at q3 q4
    have e : cur.toList[k]? = some u := by
      have := congrArg (fun l => l[k]?) q4
      simp only [List.getElem?_take, if_pos hk1, hk] at this
      exact this
    unfold World.cell?
    simp only [hgb]
    rw [← Array.getElem?_toList]; exact e
/-- Under way through the names. -/
structure Rl (w W : World) (tag tag' : Nat → Option Lb) (p N : Nat) (s s' : St) (bs bw bq : Nat) (bi : Int → Nat) (sl : Bytes → Value) (L : List Bytes) (k : Nat) (v : Value) (out : List Int) : Prop where
  tb : Tb W tag' p (N + 2 * tot s.q (L.take k)) s' bs bw bq bi sl
  ev : Ev tag tag' w W
  row : W.ownsRow w.heap.size 3 1 v out.length (out.map (Value.int .i64))
  fr : ∀ g, v.ownBlock = some g → tag' g = none
  rl : ∀ s2 L2, Rel s' (L.drop k) s2 L2 → Rel s L s2 (out ++ L2)
  qs : ∀ n ∈ L.drop k, s'.q n = s.q n
  wf : Wq s'
  ln : out.length ≤ tot s.q (L.take k)
variable {w : World} {tag : Nat → Option Lb} {p N : Nat} {s : St} {bs bw bq : Nat} {bi : Int → Nat} {sl : Bytes → Value}
theorem Rl.start (h : Tb w tag p N s bs bw bq bi sl) (L : List Bytes) (hw : Wq s) : Rl w w tag tag p N s s bs bw bq bi sl L 0 (.slice none 0 0) [] :=
  ⟨h.mono (by omega), Ev.refl _ _, ⟨rfl, Or.inl ⟨rfl, rfl⟩⟩, (fun _ e => nomatch e), fun _ _ hs => by simpa using hs, fun _ _ => rfl, hw, Nat.zero_le _⟩
theorem drop_atB {L : List Bytes} {k : Nat} {nm : Bytes} (ho : L[k]? = some nm) : L.drop k = nm :: L.drop (k + 1) := by
  obtain ⟨h1, h2⟩ := List.getElem?_eq_some_iff.1 ho
  rw [List.drop_eq_getElem_cons h1, h2]
theorem Rl.step {W W2 W3 : World} {tag' : Nat → Option Lb} {s' s2 : St} {nm : Bytes} {L : List Bytes} {k : Nat} {v v2 v' : Value} {out L2 : List Int} (h : Rl w W tag tag' p N s s' bs bw bq bi sl L k v out) (hnd : L.Nodup) (hn : L[k]? = some nm) (hS : ServeE W W2 tag' p (N + 2 * tot s.q (L.take k)) s' bs bw bq nm v2 L2 s2)
    (hrow : W3.ownsRow w.heap.size 3 1 v' (out ++ L2).length ((out ++ L2).map (Value.int .i64))) (hgr : W2.grownBy W3 v.ownBlock) (hloc : ∀ g, v'.ownBlock = some g → v.ownBlock = some g ∨ W2.heap.size ≤ g) :
    ∃ tag2 bi2 sl2, Rl w W3 tag tag2 p N s s2 bs bw bq bi2 sl2 L (k + 1) v' (out ++ L2) := by
  obtain ⟨tag2, bi2, sl2, hs, hT, hE, hr2, hf2, hl2⟩ := hS
  have hd := drop_atB hn
  have hq : s'.q nm = s.q nm := h.qs nm (by rw [hd]; exact List.mem_cons_self ..)
  have hfr : ∀ g, v.ownBlock = some g → tag2 g = none := fun g hg => hE.tags g (row_lt h.row hg) (h.fr g hg)
  have hnd2 : (nm :: L.drop (k + 1)).Nodup := by rw [← hd]; exact hnd.sublist (List.drop_sublist _ _)
  have hw := hs.wq ⟨fun n x hx => by
      have hx' : x ∈ (if n = nm then [] else s'.q n) := hx
      by_cases e : n = nm
      · rw [if_pos e] at hx'; cases hx'
      · rw [if_neg e] at hx'; exact h.wf.w n x hx', fun n => by
      show (if n = nm then [] else s'.q n).Nodup
      by_cases e : n = nm
      · rw [if_pos e]; exact List.nodup_nil
      · rw [if_neg e]; exact h.wf.d n⟩ (fun x hx => h.wf.w nm x hx) (h.wf.d nm) (fun x _ hx => by
      have hx' : x ∈ (if nm = nm then [] else s'.q nm) := hx
      rw [if_pos rfl] at hx'; cases hx')
  have htt := tot_take (q := s.q) hn
  refine ⟨tag2, bi2, sl2, (hT.kept hgr.size (fun b hb1 hb2 => hgr.block b hb1 (fun e => hb2 (hfr b e.symm)))).mono (by rw [htt, hq]; omega), (h.ev.trans hE).grow hgr (fun g hg => row_lo h.row hg), hrow, fun g hg => ?_, fun s3 L3 h3 => ?_, fun n hn' => ?_, hw.1, ?_⟩
  · rcases hloc g hg with e | e
    · exact hfr g e
    · exact hT.top g e
  · rw [List.append_assoc]
    exact h.rl s3 (L2 ++ L3) (by rw [hd]; exact .cons hs h3)
  · have hne : n ≠ nm := fun e => by rw [e] at hn'; exact (List.nodup_cons.1 hnd2).1 hn'
    rw [hw.2 n hne]
    show (if n = nm then [] else s'.q n) = _
    rw [if_neg hne]
    exact h.qs n (by rw [hd]; exact List.mem_cons_of_mem _ hn')
  · have := h.ln
    rw [htt]; rw [hq] at hl2; simp; omega
theorem up_nodup {α : Type} {le : α → α → Prop} {l : List α} (h : Rs.Up le l) : l.Nodup := List.Pairwise.imp (fun h => h.2) h
/-- What Release comes to. -/
def RelE (w w' : World) (tag : Nat → Option Lb) (p N : Nat) (s : St) (bs bw bq : Nat) (x : Int) (v : Value) (out : List Int) (s' : St) (L : List Bytes) : Prop :=
  ∃ tag' bi' sl', Rel (leaveS s x) L s' out ∧ Rs.Up (· ≤ ·) L ∧ (∀ n, n ∈ L ↔ n.length ≤ maxLen ∧ (s.set x n ≠ 0 ∨ (s.want x).map (·.1) = some n)) ∧ Tb w' tag' p (N + 1 + 2 * tot (leaveS s x).q L) s' bs bw bq bi' sl' ∧ Ev tag tag' w w' ∧ w'.ownsRow w.heap.size 3 1 v out.length (out.map (Value.int .i64)) ∧ (∀ g, v.ownBlock = some g → tag' g = none) ∧ out.length ≤ tot (leaveS s x).q L ∧ Wq s'
end Lk

end Go.Proofs.YthaenobciefjiaaDoor
