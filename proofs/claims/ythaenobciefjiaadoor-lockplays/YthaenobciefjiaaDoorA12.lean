/- One more in a queue. -/
import Derived.Test.YthaenobciefjiaaDoorA10
namespace Go.Proofs.YthaenobciefjiaaDoor
open Go.RowKit Go.Maps Go.ChangeMaps Go.MapKept

namespace Mp
/-- append by its run, as one step of a region that draws. -/
theorem step_app {P : Program} {ops : Array Oper} {o : Oper} {a : Act} {w : World} {K : Act → World → Prop} {Q : Exit → Act → World → Prop} {E : Prop}
    (hgd : o.guard = none) (s x : Operand) (t : TypeId) (hop : o.op = Op.call { callee := Callee.builtin Builtin.append, args := #[s, x], argTypes := #[t, t] }) (v xv v' : Value) (w' : World) (hs : a.eval s = v) (hx : a.eval x = xv)
    (hrun : ∀ ty, (Builtin.append_ #[t, t] ty #[v, xv]).run P w = .ok v' w') (hK : K (a.put o.dst v') w') :
    if Region.wanted o (yielded ops a.tmps) = true then Oper.wp P o a w K Q else E := by
  have hw : Region.wanted o (yielded ops a.tmps) = true := by simp [Region.wanted, hgd]
  rw [if_pos hw]
  unfold Oper.wp
  simp [execOp, hop, resolve, invoke, builtin, hs, hx, hrun, Result.andThen]
  exact hK
end Mp

namespace Lk
variable {w : World} {tag : Nat → Option Lb} {p N : Nat} {s : St} {bs bw bq : Nat} {bi : Int → Nat} {sl : Bytes → Value}
def enqS (s : St) (nm : Bytes) (x : Int) : St := { s with q := fun k => if k = nm then s.q nm ++ [x] else s.q k }
/-- What queues[nm] = append(queues[nm], x) comes to. -/
structure Enq (w : World) (tag : Nat → Option Lb) (p N : Nat) (s : St) (bs bw bq : Nat) (bi : Int → Nat) (nm : Bytes) (x : Int) (v0 v' : Value) (w5 w6 : World) : Prop where
  l1 : (Instr.lookup 59 (.map (some bq)) (str nm) false).run Tryd.prog w.drew = .ok v0 w.drew
  l2 : (Instr.lookup 59 (.map (some bq)) (str nm) false).run Tryd.prog (w.alloc (.cells #[.int .i64 x] 3)).drew = .ok v0 (w.alloc (.cells #[.int .i64 x] 3)).drew
  ap : ∀ ty, (Builtin.append_ #[37, 37] ty #[v0, .slice (some ⟨w.heap.size, 0, none⟩) 1 1]).run Tryd.prog (w.alloc (.cells #[.int .i64 x] 3)).drew = .ok v' w5
  up : (Instr.mapUpdate 59 (.map (some bq)) (str nm) v').run Tryd.prog w5 = .ok () w6
  old : ∀ b, b < w.heap.size → tag b = none → w5.heap[b]? = w.heap[b]? ∧ w6.heap[b]? = w.heap[b]?
  c2 : w5.cell? ⟨p, 2, none⟩ = some (.map (some bq)) ∧ w6.cell? ⟨p, 2, none⟩ = some (.map (some bq))
  fin : ∃ tag' sl', Tb w6 tag' p (N + 1) (enqS s nm x) bs bw bq bi sl' ∧ Ev tag tag' w w6

set_option maxRecDepth 100000 in
theorem Tb.enq (h : Tb w tag p N s bs bw bq bi sl) (nm : Bytes) (x : Int) (hl : nm.length ≤ maxLen) (hx : wfI x) (hN : N < 100000) : ∃ v0 v' w5 w6, Enq w tag p N s bs bw bq bi nm x v0 v' w5 w6 := by
  obtain ⟨v0, hv0⟩ : ∃ v0, v0 = if s.q nm = [] then .slice none 0 0 else sl nm := ⟨_, rfl⟩
  have hrow : w.ownsRow 0 3 1 v0 (s.q nm).length ((s.q nm).map (Value.int .i64)) ∧ ∀ g, v0.ownBlock = some g → tag g = some (.g nm) := by
    by_cases hq : s.q nm = []
    · rw [hv0, if_pos hq, hq]
      exact ⟨⟨rfl, Or.inl ⟨rfl, rfl⟩⟩, fun g hg => nomatch hg⟩
    · rw [hv0, if_neg hq]; exact h.rows nm hq
  obtain ⟨hrow, hvt⟩ := hrow
  have hgl : ∀ g, v0.ownBlock = some g → g < w.heap.size := fun g hg => Nat.lt_of_not_le (fun hb => by have := hvt g hg; rw [h.top g hb] at this; cases this)
  obtain ⟨A, hA⟩ : ∃ A, A = Obj.cells #[.int .i64 x] 3 := ⟨_, rfl⟩
  have ha : ∀ b, b < w.heap.size → (w.alloc A).heap[b]? = w.heap[b]? := fun b hb => Below.heap_alloc w A b hb
  have hrow1 : (w.alloc A).drew.ownsRow 0 3 1 v0 (s.q nm).length ((s.q nm).map (Value.int .i64)) := row_kept hrow (fun g hg => ha g (hgl g hg))
  have hqn := h.qn nm
  obtain ⟨i0, hi, hz0, hz1, hz2⟩ : ∃ i, Tryd.prog.info? 3 = some i ∧ i.zero = some (.int .i64 0) ∧ i.size = 1 ∧ i.bytes = 8 := ⟨_, Tryd.type3, rfl, rfl, rfl⟩
  have hcell : ∀ j u, ([.int .i64 x] : List Value)[j]? = some u → (w.alloc A).drew.cell? ((⟨w.heap.size, 0, none⟩ : Addr).add j) = some u := by rw [hA]; exact cell_one_new w (.int .i64 x) 3
  have hmany := fun ty => run_append_own_at (P := Tryd.prog) (w.alloc A).drew 0 37 ty 3 i0 (.int .i64 0) 1 8 Tryd.underlying37 hi hz0 hz1 hz2 rfl (by decide) v0 _ _ hrow1 ⟨w.heap.size, 0, none⟩ 1 1 [.int .i64 x] rfl hcell (ints_oneCell .i64 [x]) (by unfold maxLen; omega) (by omega) (Nat.zero_le _)
  obtain ⟨v', w5, hr5, hown, hgr, -, hloc⟩ := hmany 37
  have hr5' : ∀ ty, (Builtin.append_ #[37, 37] ty #[v0, .slice (some ⟨w.heap.size, 0, none⟩) 1 1]).run Tryd.prog (w.alloc A).drew = .ok v' w5 := fun ty => by
    rw [← hr5]; rfl
  have k5 : ∀ b, b < w.heap.size → tag b ≠ some (.g nm) → w5.heap[b]? = w.heap[b]? := fun b hb ht => (hgr.block b (by simp [World.drew]; omega) (fun e => ht (hvt b e.symm))).trans (ha b hb)
  have hbq : bq < w.heap.size := h.queues.lt
  have hF := h.queues.kept (w' := w5) (k5 bq hbq (by rw [h.tq]; simp))
  obtain ⟨w6, hr6, hf6, hm6⟩ := hF.store sK_inj keyS Tryd.underlying59 (by unfold maxLen; omega) (key_s hl) v'
  obtain ⟨m1, m2, m3, m4, m5⟩ := Mp.turned_block hm6
  have hs5 : w.heap.size + 1 ≤ w5.heap.size := by have := hgr.size; simpa [World.drew] using this
  have hbv : v'.ownBlock = v0.ownBlock ∨ v'.ownBlock = some (w.heap.size + 1) := by simpa [World.drew] using hloc
  have hp := h.lt
  have hcp5 : w5.heap[p]? = w.heap[p]? := k5 p hp (by rw [h.tp]; simp)
  have hcp6 : w6.heap[p]? = w.heap[p]? := (m2 p (apart h.tp h.tq (by simp))).trans hcp5
  have hT1 : (Instr.lookup 59 (.map (some bq)) (str nm) false).run Tryd.prog w.drew = .ok v0 w.drew := by rw [hv0]; exact h.drew.lookQ hl
  have hT2 : (Instr.lookup 59 (.map (some bq)) (str nm) false).run Tryd.prog (w.alloc A).drew = .ok v0 (w.alloc A).drew := by rw [hv0]; exact (h.alloc A).drew.lookQ hl
  have hlist : (s.q nm).map (Value.int .i64) ++ [.int .i64 x] = (s.q nm ++ [x]).map (Value.int .i64) := by simp
  rw [hlist] at hown
  have hown' : w5.ownsRow 0 3 1 v' (s.q nm ++ [x]).length ((s.q nm ++ [x]).map (Value.int .i64)) := by simpa using hown
  subst hA
  refine ⟨v0, v', w5, w6, hT1, hT2, hr5', hr6, fun b hb ht => ?_, ⟨(World.cell?_of_block (a := ⟨p, 2, none⟩) hcp5).trans h.c2, (World.cell?_of_block (a := ⟨p, 2, none⟩) hcp6).trans h.c2⟩, ?_⟩
  · have e5 := k5 b hb (by rw [ht]; simp)
    exact ⟨e5, (m2 b (fun e => by rw [e, h.tq] at ht; cases ht)).trans e5⟩
  · have hvl : ∀ g, v'.ownBlock = some g → g < w5.heap.size := fun g hg => by
      rcases hown'.2 with ⟨e, _⟩ | ⟨g', cap, cur, e, _, hg', _⟩
      · rw [e] at hg; cases hg
      · rw [e] at hg; injection hg with hg; simp at hg; subst hg; exact (Array.getElem?_eq_some_iff.1 hg').1
    have hwf : ∀ o ∈ s.q nm ++ [x], wfI o := fun o ho => by
      rcases List.mem_append.1 ho with ho | ho
      · exact h.qw nm o ho
      · rw [List.mem_singleton.1 ho]; exact hx
    rcases hbv with hbv | hbv
    · refine ⟨tag, _, h.putQueue (fun b hb ht _ => k5 b hb ht) (fun _ _ => rfl) (fun b hb => h.top b (by omega)) (by simp) hown' (fun g hg => hvt g (by rw [← hbv]; exact hg)) (by simp; omega) hwf hm6 hf6, ?_⟩
      exact ⟨m3.trans hgr.os, m4.trans hgr.tape, m5.trans hgr.output, by omega, fun b hb ht => (m2 b (fun e => by rw [e, h.tq] at ht; cases ht)).trans (k5 b hb (by rw [ht]; simp)), fun _ _ h => h⟩
    · have hlt := hvl _ hbv
      refine ⟨fun b => if b = w.heap.size + 1 then some (.g nm) else tag b, _, h.putQueue (fun b hb ht _ => k5 b hb ht) (fun b hb => if_neg (by omega)) (fun b hb => (if_neg (by omega)).trans (h.top b (by omega))) (by simp) hown' (fun g hg => ?_) (by simp; omega) hwf hm6 hf6, ?_⟩
      · rw [hbv] at hg; injection hg with hg; rw [if_pos hg.symm]
      · exact ⟨m3.trans hgr.os, m4.trans hgr.tape, m5.trans hgr.output, by omega, fun b hb ht => (m2 b (fun e => by rw [e, h.tq] at ht; cases ht)).trans (k5 b hb (by rw [ht]; simp)), fun b hb hn => (if_neg (by omega)).trans hn⟩
end Lk

end Go.Proofs.YthaenobciefjiaaDoor
