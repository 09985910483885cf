/- The statements' own check of the program. -/
import Derived.Test.YthaenobciefjiaaDoorZ0
namespace Go.Proofs.YthaenobciefjiaaDoor
open Go.RowKit Go.Maps Go.ChangeMaps Go.MapKept Go.Sort Go.Shelf

namespace Lk
variable {w w' : World} {tag : Nat → Option Lb} {p N : Nat} {s : St} {bs bw bq : Nat}
/-- What was there ahead of a table, lies. -/
theorem Ev.back {w w1 w' : World} {tag' : Nat → Option Lb} (hb : Below w.heap.size w w1) (hE : Ev tag tag' w1 w') (ht : ∀ b, b < w.heap.size → tag b = none) : Below w.heap.size w w' :=
  ⟨hE.os.trans hb.os, hE.tape.trans hb.tape, hE.output.trans hb.output, Nat.le_trans hb.size hE.size, fun b hlt => (hE.block b (Nat.lt_of_lt_of_le hlt hb.size) (ht b hlt)).trans (hb.block b hlt)⟩
theorem tag0_old {n b : Nat} (h : b < n) : tag0 n b = none := by
  unfold tag0
  rw [if_neg (by omega), if_neg (by omega), if_neg (by omega), if_neg (by omega)]
/-- A table that was made here, what lay ahead of it, and blocks that are not its own. -/
structure Own (F : Nat → Prop) (w W : World) (p N : Nat) (s : St) (bs bw bq : Nat) : Prop where
  tb : ∃ tag bi sl, Tb W tag p N s bs bw bq bi sl ∧ ∀ b, F b → tag b = none
  bel : Below w.heap.size w W
  old : ∀ b, b < w.heap.size → F b
  lt : ∀ b, F b → b < W.heap.size
/-- .. and all that has come since. -/
def Fx (F : Nat → Prop) (W W' : World) (b : Nat) : Prop := F b ∨ (W.heap.size ≤ b ∧ b < W'.heap.size)
theorem Own.md {F : Nat → Prop} {W : World} (h : Own F w W p N s bs bw bq) (hM : Md.Tab w) : Md.Tab W := hM.below h.bel
theorem Own.below {F : Nat → Prop} {W W' : World} (h : Own F w W p N s bs bw bq) (hb : Below W.heap.size W W') : Own (Fx F W W') w W' p N s bs bw bq := by
  obtain ⟨tag, bi, sl, h1, h2⟩ := h.tb
  refine ⟨⟨tag, bi, sl, h1.below hb, fun b hf => ?_⟩, h.bel.trans (hb.mono h.bel.size), fun b hb => Or.inl (h.old b hb), fun b hf => ?_⟩
  · rcases hf with hf | hf
    · exact h2 b hf
    · exact h1.top b hf.1
  · rcases hf with hf | hf
    · exact Nat.lt_of_lt_of_le (h.lt b hf) hb.size
    · exact hf.2
theorem Own.less {F G : Nat → Prop} {W : World} (h : Own F w W p N s bs bw bq) (hg : ∀ b, G b → F b) (ho : ∀ b, b < w.heap.size → G b) : Own G w W p N s bs bw bq := by
  obtain ⟨tag, bi, sl, h1, h2⟩ := h.tb
  exact ⟨⟨tag, bi, sl, h1, fun b hb => h2 b (hg b hb)⟩, h.bel, ho, fun b hb => h.lt b (hg b hb)⟩
theorem Own.same {F : Nat → Prop} {W W' : World} (h : Own F w W p N s bs bw bq) (hb : Below W.heap.size W W') : Own F w W' p N s bs bw bq := (h.below hb).less (fun _ h => Or.inl h) h.old
theorem Own.alloc {F : Nat → Prop} {W : World} (h : Own F w W p N s bs bw bq) (o : Obj) : Own F w (W.alloc o) p N s bs bw bq := h.same ((Below.refl _ _).alloc (Nat.le_refl _) o)
theorem Own.drew {F : Nat → Prop} {W : World} (h : Own F w W p N s bs bw bq) : Own F w W.drew p N s bs bw bq := h.same (Below.refl _ _).drew
theorem Own.mono {F : Nat → Prop} {W : World} (h : Own F w W p N s bs bw bq) {M : Nat} (hm : N ≤ M) : Own F w W p M s bs bw bq := by
  obtain ⟨tag, bi, sl, h1, h2⟩ := h.tb
  exact ⟨⟨tag, bi, sl, h1.mono hm, h2⟩, h.bel, h.old, h.lt⟩
theorem Own.lo {F : Nat → Prop} {W : World} (h : Own F w W p N s bs bw bq) (x : Int) (nm : Bytes) : s.set x nm < 512 := by
  obtain ⟨tag, bi, sl, h1, h2⟩ := h.tb
  exact h1.lo x nm
theorem Own.nh {F : Nat → Prop} {W : World} (h : Own F w W p N s bs bw bq) (x : Int) (nm : Bytes) (hh : s.hol x = false) : s.set x nm = 0 := by
  obtain ⟨tag, bi, sl, h1, h2⟩ := h.tb
  exact h1.nh x nm hh
/-- A call upon the table. -/
theorem Own.go {F : Nat → Prop} {W W' : World} {tag tag' : Nat → Option Lb} {s' : St} {M : Nat} {bi' : Int → Nat} {sl' : Bytes → Value} (h : Own F w W p N s bs bw bq) (h2 : ∀ b, F b → tag b = none) (hT : Tb W' tag' p M s' bs bw bq bi' sl') (hE : Ev tag tag' W W') :
    Own F w W' p M s' bs bw bq ∧ ∀ b, F b → W'.heap[b]? = W.heap[b]? :=
  ⟨⟨⟨tag', bi', sl', hT, fun b hb => hE.tags b (h.lt b hb) (h2 b hb)⟩, hE.back h.bel (fun b hb => h2 b (h.old b hb)), h.old, fun b hb => Nat.lt_of_lt_of_le (h.lt b hb) hE.size⟩, fun b hb => hE.block b (h.lt b hb) (h2 b hb)⟩
/-- Where nothing of the table's turned. -/
theorem Own.kept {F : Nat → Prop} {W W' : World} (h : Own F w W p N s bs bw bq) (hz : W.heap.size ≤ W'.heap.size) (hk : ∀ b, b < W.heap.size → ¬ F b → W'.heap[b]? = W.heap[b]?) (hb : Below w.heap.size w W') : Own (Fx F W W') w W' p N s bs bw bq := by
  obtain ⟨tag, bi, sl, h1, h2⟩ := h.tb
  refine ⟨⟨tag, bi, sl, h1.kept hz (fun b hb ht => hk b hb (fun hf => ht (h2 b hf))), fun b hf => ?_⟩, hb, fun b hb => Or.inl (h.old b hb), fun b hf => ?_⟩
  · rcases hf with hf | hf
    · exact h2 b hf
    · exact h1.top b hf.1
  · rcases hf with hf | hf
    · exact Nat.lt_of_lt_of_le (h.lt b hf) hz
    · exact hf.2
end Lk

set_option maxHeartbeats 400000 in
theorem newO_any (w : World) :
    Calls Tryd.prog 9 #[] w fun e w' => ∃ p bs bw bq, e = .returned (.pointer (some ⟨p, 0, none⟩)) ∧ Lk.Own (fun b => b < w.heap.size) w w' p 0 Lk.st0 bs bw bq := by
  refine (new_any w).mono ?_
  rintro e w' ⟨rfl, hT, hb⟩
  exact ⟨_, _, _, _, rfl, ⟨_, _, _, hT, fun b hlt => Lk.tag0_old hlt⟩, hb, fun _ h => h, fun b h => Nat.lt_of_lt_of_le h hb.size⟩

set_option maxHeartbeats 400000 in
theorem takeO_any (F : Nat → Prop) (w W : World) (p N : Nat) (s : Lk.St) (bs bw bq : Nat) (x : Int) (nm : Lk.Bytes) (m : Int) (hO : Hid (Lk.Own F w W p N s bs bw bq)) (hM : Hid (Md.Tab w)) (hx : Lk.wfI x) (hl : nm.length ≤ maxLen) (hN : Hid (N < 90000)) :
    Calls Tryd.prog 12 #[.pointer (some ⟨p, 0, none⟩), .int .i64 x, Lk.str nm, .int .i64 m] W fun e w' => ∃ E s', e = .returned (.int .i64 E) ∧ Lk.TakeR s x nm m E s' ∧ Lk.Own F w w' p (N + 2) s' bs bw bq ∧ ∀ b, F b → w'.heap[b]? = W.heap[b]? := by
  obtain ⟨tag, bi, sl, hT, ht⟩ := hO.out.tb
  refine (take_any W tag p N s bs bw bq bi sl x nm m (Mp.hid hT) (Mp.hid (hO.out.md hM.out)) hx hl hN).mono ?_
  rintro e w' ⟨E, rfl, s', tag', bi', sl', hR, hT', hE⟩
  exact ⟨E, s', rfl, hR, hO.out.go ht hT' hE⟩

set_option maxHeartbeats 400000 in
theorem modesO_any (F : Nat → Prop) (w W : World) (p N : Nat) (s : Lk.St) (bs bw bq : Nat) (x : Int) (nm : Lk.Bytes) (hO : Hid (Lk.Own F w W p N s bs bw bq)) (hx : Lk.wfI x) (hl : nm.length ≤ maxLen) :
    Calls Tryd.prog 19 #[.pointer (some ⟨p, 0, none⟩), .int .i64 x, Lk.str nm] W fun e w' => e = .returned (.int .i64 (s.set x nm)) ∧ w' = W := by
  obtain ⟨tag, bi, sl, hT, ht⟩ := hO.out.tb
  exact modes_any W tag p N s bs bw bq bi sl x nm (Mp.hid hT) hx hl

set_option maxHeartbeats 400000 in
theorem waitsO_any (F : Nat → Prop) (w W : World) (p N : Nat) (s : Lk.St) (bs bw bq : Nat) (x : Int) (hO : Hid (Lk.Own F w W p N s bs bw bq)) (hx : Lk.wfI x) :
    Calls Tryd.prog 17 #[.pointer (some ⟨p, 0, none⟩), .int .i64 x] W fun e w' => e = .returned (.tuple #[.string ⟨(Lk.wn s x).toArray⟩, .int .i64 (Lk.wm s x), .bool (s.want x).isSome]) ∧ Below W.heap.size W w' := by
  obtain ⟨tag, bi, sl, hT, ht⟩ := hO.out.tb
  exact waits_any W tag p N s bs bw bq bi sl x (Mp.hid hT) hx

set_option maxHeartbeats 400000 in
theorem forO_any (F : Nat → Prop) (w W : World) (p N : Nat) (s : Lk.St) (bs bw bq : Nat) (x : Int) (hO : Hid (Lk.Own F w W p N s bs bw bq)) (hM : Hid (Md.Tab w)) (hx : Lk.wfI x) (hr : Hid (∀ r, s.want x = some r → r.1.length ≤ maxLen)) (hN : Hid (N < 90000)) :
    Calls Tryd.prog 21 #[.pointer (some ⟨p, 0, none⟩), .int .i64 x] W fun e w' => ∃ (v : Value) (L : List Int), e = .returned v ∧ w'.ownsRow W.heap.size 3 1 v L.length (L.map (Value.int .i64)) ∧ Rs.Up (· ≤ ·) L ∧ (∀ o, o ∈ L ↔ ∃ r, s.want x = some r ∧ Lk.barB s x r.1 r.2 o = true) ∧ L.length ≤ 2 * N ∧ Below W.heap.size W w' := by
  obtain ⟨tag, bi, sl, hT, ht⟩ := hO.out.tb
  exact for_any W tag p N s bs bw bq bi sl x (Mp.hid hT) (Mp.hid (hO.out.md hM.out)) hx hr (Mp.hid (by have := hN.out; omega))

set_option maxHeartbeats 400000 in
/-- Release of who does not wait. -/
theorem releaseN_any (F : Nat → Prop) (w W : World) (p N : Nat) (s : Lk.St) (bs bw bq : Nat) (x : Int) (hO : Hid (Lk.Own F w W p N s bs bw bq)) (hM : Hid (Md.Tab w)) (hx : Lk.wfI x) (hw : Hid (s.want x = none)) (hWq : Hid (Lk.Wq (Lk.leaveS s x))) (hN : Hid (∀ L : List Lk.Bytes, L.Nodup → N + 1 + 2 * Lk.tot (Lk.leaveS s x).q L < 90000)) :
    Calls Tryd.prog 15 #[.pointer (some ⟨p, 0, none⟩), .int .i64 x] W fun e w' => ∃ (v : Value) (out : List Int) (s' : Lk.St) (L : List Lk.Bytes), e = .returned v ∧ Lk.Rel (Lk.leaveS s x) L s' out ∧ Rs.Up (· ≤ ·) L ∧ (∀ n, n ∈ L ↔ n.length ≤ maxLen ∧ (s.set x n ≠ 0 ∨ (s.want x).map (·.1) = some n)) ∧ w'.ownsRow W.heap.size 3 1 v out.length (out.map (Value.int .i64)) ∧ Lk.Own F w w' p (N + 1 + 2 * Lk.tot (Lk.leaveS s x).q L) s' bs bw bq ∧ (∀ b, F b → w'.heap[b]? = W.heap[b]?) ∧ Lk.Wq s' ∧ out.length ≤ Lk.tot (Lk.leaveS s x).q L := by
  obtain ⟨tag, bi, sl, hT, ht⟩ := hO.out.tb
  have hN0 : N < 90000 := by have := hN.out [] List.nodup_nil; omega
  have hMW := hO.out.md hM.out
  refine (release_any W tag p N s bs bw bq x (Mp.hid hMW) (Mp.hid (ht _ (hO.out.old _ hM.out.lt))) (Mp.hid (leave_none W tag p N s bs bw bq bi sl x (Mp.hid hT) hx hw (Mp.hid hN0))) hWq hN).mono ?_
  rintro e w' ⟨v, out, s', L, rfl, tag', bi', sl', hR, hU, hm, hT', hE, hrow, hfr, hlen, hwq⟩
  obtain ⟨h1, h2⟩ := hO.out.go ht hT' hE
  exact ⟨v, out, s', L, rfl, hR, hU, hm, hrow, h1, h2, hwq, hlen⟩

end Go.Proofs.YthaenobciefjiaaDoor
