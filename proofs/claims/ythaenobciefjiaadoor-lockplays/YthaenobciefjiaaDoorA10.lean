/- Take. -/
import Derived.Test.YthaenobciefjiaaDoorA9
namespace Go.Proofs.YthaenobciefjiaaDoor
open Go.RowKit Go.Maps Go.ChangeMaps Go.MapKept

namespace Lk
theorem isB_iff {m : Int} : Md.isB m = true ↔ 1 ≤ m ∧ m ≤ 8 := by simp [Md.isB]
def okArg (x : Int) (nm : Bytes) (m : Int) : Bool := decide (1 ≤ x) && decide (x ≤ 200) && Md.isB m && decide (nm.length ≤ 8)
/-- The modes of a set. -/
theorem and_bit {a : Nat} {m : Int} (ha : a < 512) (h : 1 ≤ m ∧ m ≤ 8) : bits .and .i64 (a : Int) (bit m : Int) = ((a &&& bit m : Nat) : Int) := by
  rw [Md.and_eq _ _ (bit_lt h).2]
  have : Md.low (a : Int) = a := by unfold Md.low; omega
  rw [this]
def waitS (s : St) (x : Int) (nm : Bytes) (m : Int) : St := { s with want := fun y => if y = x then some (nm, m) else s.want y, q := fun k => if k = nm then s.q nm ++ [x] else s.q k }
variable {w : World} {tag : Nat → Option Lb} {p N : Nat} {s : St} {bs bw bq : Nat} {bi : Int → Nat} {sl : Bytes → Value}
/-- A store into what is waited for. -/
theorem Tb.putWant (h : Tb w tag p N s bs bw bq bi sl) {x : Int} {w' : World} (ht : w.mapTurned w' bw) {r : Bytes × Int} (hf : Mp.Fn w' Tryd.prog 3 iK bw (N + 1) (Mp.up (fun h => (s.want h).map reqV) x (some (reqV r)))) :
    Tb w' tag p (N + 1) { s with want := fun y => if y = x then some r else s.want y } bs bw bq bi sl := by
  obtain ⟨h1, h2, h3, h4, h5⟩ := Mp.turned_block ht
  have k : ∀ b l, tag b = some l → l ≠ .w → w'.heap[b]? = w.heap[b]? := fun b l e hl => h2 b (apart e h.tw hl)
  refine ⟨(k p _ h.tp (by simp)).trans h.cell, h.tp, h.ts, h.tw, h.tq, h.ti, fun b hb => h.top b (by omega), (h.sets.kept (k _ _ h.ts (by simp))).mono (Nat.le_succ _), fun y hy => ((h.inner y hy).kept (k _ _ (h.ti y hy) (by simp))).mono (Nat.le_succ _), hf.ext (fun y _ => ?_), (h.queues.kept (k _ _ h.tq (by simp))).mono (Nat.le_succ _), fun n hn => ?_, h.lo, h.nh, fun n => Nat.le_succ_of_le (h.qn n), h.hw, h.qw⟩
  · by_cases e : y = x
    · subst e; simp [Mp.up]
    · simp [Mp.up, e]
  · obtain ⟨r1, r2⟩ := h.rows n hn
    exact ⟨row_kept r1 (fun g hg => k g _ (r2 g hg) (by simp)), r2⟩
theorem Tb.dropWant (h : Tb w tag p N s bs bw bq bi sl) {x : Int} {w' : World} (ht : w.mapTurned w' bw) (hf : Mp.Fn w' Tryd.prog 3 iK bw N (Mp.up (fun h => (s.want h).map reqV) x none)) :
    Tb w' tag p N { s with want := fun y => if y = x then none else s.want y } bs bw bq bi sl := by
  obtain ⟨h1, h2, h3, h4, h5⟩ := Mp.turned_block ht
  have k : ∀ b l, tag b = some l → l ≠ .w → w'.heap[b]? = w.heap[b]? := fun b l e hl => h2 b (apart e h.tw hl)
  refine ⟨(k p _ h.tp (by simp)).trans h.cell, h.tp, h.ts, h.tw, h.tq, h.ti, fun b hb => h.top b (by omega), h.sets.kept (k _ _ h.ts (by simp)), fun y hy => (h.inner y hy).kept (k _ _ (h.ti y hy) (by simp)), hf.ext (fun y _ => ?_), h.queues.kept (k _ _ h.tq (by simp)), fun n hn => ?_, h.lo, h.nh, h.qn, h.hw, h.qw⟩
  · by_cases e : y = x
    · subst e; simp [Mp.up]
    · simp [Mp.up, e]
  · obtain ⟨r1, r2⟩ := h.rows n hn
    exact ⟨row_kept r1 (fun g hg => k g _ (r2 g hg) (by simp)), r2⟩
/-- Of all sets one is dropped. -/
theorem Tb.dropHol (h : Tb w tag p N s bs bw bq bi sl) {x : Int} {w' : World} (ht : w.mapTurned w' bs) (hf : Mp.Fn w' Tryd.prog 3 iK bs N (Mp.up (fun h => if s.hol h then some (.map (some (bi h))) else none) x none)) :
    Tb w' tag p N { s with hol := fun y => if y = x then false else s.hol y, set := fun y k => if y = x then 0 else s.set y k } bs bw bq bi sl := by
  obtain ⟨h1, h2, h3, h4, h5⟩ := Mp.turned_block ht
  have k : ∀ b l, tag b = some l → l ≠ .s → w'.heap[b]? = w.heap[b]? := fun b l e hl => h2 b (apart e h.ts hl)
  have hol : ∀ y, (if y = x then false else s.hol y) = true → y ≠ x ∧ s.hol y = true := fun y hy => by
    by_cases e : y = x
    · rw [if_pos e] at hy; cases hy
    · rw [if_neg e] at hy; exact ⟨e, hy⟩
  refine ⟨(k p _ h.tp (by simp)).trans h.cell, h.tp, h.ts, h.tw, h.tq, fun y hy => h.ti y (hol y hy).2, fun b hb => h.top b (by omega), hf.ext (fun y _ => ?_), fun y hy => ((h.inner y (hol y hy).2).kept (k _ _ (h.ti y (hol y hy).2) (by simp))).ext (fun n _ => ?_), h.wants.kept (k _ _ h.tw (by simp)), h.queues.kept (k _ _ h.tq (by simp)), fun n hn => ?_, fun y n => ?_, fun y n hy => ?_, h.qn, fun y hy => h.hw y (hol y hy).2, h.qw⟩
  · by_cases e : y = x
    · subst e; simp [Mp.up]
    · simp [Mp.up, e]
  · simp [(hol y hy).1]
  · obtain ⟨r1, r2⟩ := h.rows n hn
    exact ⟨row_kept r1 (fun g hg => k g _ (r2 g hg) (by simp)), r2⟩
  · show (if y = x then 0 else s.set y n) < 512
    by_cases e : y = x
    · rw [if_pos e]; omega
    · rw [if_neg e]; exact h.lo y n
  · show (if y = x then 0 else s.set y n) = 0
    by_cases e : y = x
    · rw [if_pos e]
    · rw [if_neg e]; exact h.nh y n (by have : (if y = x then false else s.hol y) = false := hy; rwa [if_neg e] at this)
/-- A queue laid anew. v: where it lies; all other blocks of the table's as they were. -/
theorem Tb.putQueue (h : Tb w tag p N s bs bw bq bi sl) {w1 w' : World} {tag' : Nat → Option Lb} {nm : Bytes} {l : List Int} {v : Value} (hk : ∀ b, b < w.heap.size → tag b ≠ some (.g nm) → tag b ≠ none → w1.heap[b]? = w.heap[b]?)
    (ht' : ∀ b, b < w.heap.size → tag' b = tag b) (htop : ∀ b, w1.heap.size ≤ b → tag' b = none) (hne : l ≠ []) (hrow : w1.ownsRow 0 3 1 v l.length (l.map (Value.int .i64))) (hvt : ∀ g, v.ownBlock = some g → tag' g = some (.g nm)) (hlen : l.length ≤ N + 1) (hwf : ∀ o ∈ l, wfI o)
    (ht : w1.mapTurned w' bq) (hf : Mp.Fn w' Tryd.prog 9 sK bq (N + 1) (Mp.up (fun k => if s.q k = [] then none else some (sl k)) nm (some v))) :
    Tb w' tag' p (N + 1) { s with q := fun k => if k = nm then l else s.q k } bs bw bq bi (fun k => if k = nm then v else sl k) := by
  obtain ⟨h1, h2, h3, h4, h5⟩ := Mp.turned_block ht
  have old : ∀ b l, tag b = some l → b < w.heap.size := fun b l e => Nat.lt_of_not_le (fun hb => by rw [h.top b hb] at e; cases e)
  have k1 : ∀ b l, tag b = some l → l ≠ .g nm → w1.heap[b]? = w.heap[b]? := fun b l e hl => hk b (old b l e) (by rw [e]; exact fun e2 => hl (by injection e2)) (by rw [e]; exact fun e2 => nomatch e2)
  have k : ∀ b l, tag b = some l → l ≠ .g nm → l ≠ .q → w'.heap[b]? = w.heap[b]? := fun b l e hl hl2 => (h2 b (apart e h.tq hl2)).trans (k1 b l e hl)
  have tg : ∀ b l, tag b = some l → tag' b = some l := fun b l e => (ht' b (old b l e)).trans e
  refine ⟨(k p _ h.tp (by simp) (by simp)).trans h.cell, tg _ _ h.tp, tg _ _ h.ts, tg _ _ h.tw, tg _ _ h.tq, fun y hy => tg _ _ (h.ti y hy), fun b hb => htop b (by omega), (h.sets.kept (k _ _ h.ts (by simp) (by simp))).mono (Nat.le_succ _), fun y hy => ((h.inner y hy).kept (k _ _ (h.ti y hy) (by simp) (by simp))).mono (Nat.le_succ _), (h.wants.kept (k _ _ h.tw (by simp) (by simp))).mono (Nat.le_succ _), hf.ext (fun n _ => ?_), fun n hn => ?_, h.lo, h.nh, fun n => ?_, h.hw, fun n o ho => ?_⟩
  · by_cases e : n = nm
    · subst e; simp [Mp.up, hne]
    · simp [Mp.up, e]
  · by_cases e : n = nm
    · subst e
      simp only [if_true]
      refine ⟨row_kept hrow (fun g hg => h2 g (apart (hvt g hg) (tg _ _ h.tq) (by simp))), hvt⟩
    · have hn' : s.q n ≠ [] := by
        have hn2 : (if n = nm then l else s.q n) ≠ [] := hn
        rwa [if_neg e] at hn2
      obtain ⟨r1, r2⟩ := h.rows n hn'
      simp only [e, if_false]
      exact ⟨row_kept r1 (fun g hg => k g _ (r2 g hg) (fun e2 => e (by injection e2)) (by simp)), fun g hg => tg _ _ (r2 g hg)⟩
  · show (if n = nm then l else s.q n).length ≤ N + 1
    by_cases e : n = nm
    · rw [if_pos e]; exact hlen
    · rw [if_neg e]; exact Nat.le_succ_of_le (h.qn n)
  · have ho' : o ∈ (if n = nm then l else s.q n) := ho
    by_cases e : n = nm
    · rw [if_pos e] at ho'; exact hwf o ho'
    · rw [if_neg e] at ho'; exact h.qw n o ho'
theorem Tb.dropQueue (h : Tb w tag p N s bs bw bq bi sl) {w' : World} {nm : Bytes} (ht : w.mapTurned w' bq) (hf : Mp.Fn w' Tryd.prog 9 sK bq N (Mp.up (fun k => if s.q k = [] then none else some (sl k)) nm none)) :
    Tb w' tag p N { s with q := fun k => if k = nm then [] else s.q k } bs bw bq bi sl := by
  obtain ⟨h1, h2, h3, h4, h5⟩ := Mp.turned_block ht
  have k : ∀ b l, tag b = some l → l ≠ .q → w'.heap[b]? = w.heap[b]? := fun b l e hl => h2 b (apart e h.tq hl)
  refine ⟨(k p _ h.tp (by simp)).trans h.cell, h.tp, h.ts, h.tw, h.tq, h.ti, fun b hb => h.top b (by omega), h.sets.kept (k _ _ h.ts (by simp)), fun y hy => (h.inner y hy).kept (k _ _ (h.ti y hy) (by simp)), h.wants.kept (k _ _ h.tw (by simp)), hf.ext (fun n _ => ?_), fun n hn => ?_, h.lo, h.nh, fun n => ?_, h.hw, fun n o ho => ?_⟩
  · by_cases e : n = nm
    · subst e; simp [Mp.up]
    · simp [Mp.up, e]
  · have hn2 : (if n = nm then [] else s.q n) ≠ [] := hn
    by_cases e : n = nm
    · rw [if_pos e] at hn2; exact absurd rfl hn2
    · rw [if_neg e] at hn2
      obtain ⟨r1, r2⟩ := h.rows n hn2
      simp only [e, if_false]
      exact ⟨row_kept r1 (fun g hg => k g _ (r2 g hg) (by simp)), r2⟩
  · show (if n = nm then [] else s.q n).length ≤ N
    by_cases e : n = nm
    · rw [if_pos e]; exact Nat.zero_le _
    · rw [if_neg e]; exact h.qn n
  · have ho' : o ∈ (if n = nm then [] else s.q n) := ho
    by_cases e : n = nm
    · rw [if_pos e] at ho'; cases ho'
    · rw [if_neg e] at ho'; exact h.qw n o ho'
end Lk

end Go.Proofs.YthaenobciefjiaaDoor
