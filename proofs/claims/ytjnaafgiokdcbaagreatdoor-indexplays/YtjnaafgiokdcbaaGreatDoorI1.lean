/- Keys' entries given out one behind the other: the iterator's contract. -/
import Derived.RangeFuncNested
import Derived.RangeFuncBound
import Derived.RangeFuncCalls
import Derived.RangeFuncLeaves
import Derived.Shelf.Abstract
import Derived.Shelf.RegionOpen
import Derived.WalkKit
import Derived.OwnWalkIn
import Derived.TacticsInMore
import Derived.LoopNIn
import Derived.LoopIn
import Derived.Maps.AppendAt
import Derived.Test.YtjnaafgiokdcbaaGreatDoorI0
namespace Go.Proofs.YtjnaafgiokdcbaaGreatDoor
open Go.RowKit Go.Shelf
attribute [local go_sem] Oper.semAt_some
attribute [local go_sem] Fl.run_store_float

namespace Ix
open Vl Ky

/-- What lies below n, but for one block, stays. -/
structure Kq (n B0 : Nat) (A B : World) : Prop where
  os : B.os = A.os
  tape : B.tape = A.tape
  output : B.output = A.output
  size : A.heap.size ≤ B.heap.size
  block : ∀ b, b < n → b ≠ B0 → B.heap[b]? = A.heap[b]?
theorem Kq.refl (n B0 : Nat) (A : World) : Kq n B0 A A := ⟨rfl, rfl, rfl, Nat.le_refl _, fun _ _ _ => rfl⟩
theorem Kq.trans {n B0 : Nat} {A B C : World} (h : Kq n B0 A B) (k : Kq n B0 B C) : Kq n B0 A C := ⟨k.os.trans h.os, k.tape.trans h.tape, k.output.trans h.output, Nat.le_trans h.size k.size, fun b h1 h2 => (k.block b h1 h2).trans (h.block b h1 h2)⟩
theorem Kq.grown {n B0 : Nat} {A B : World} {row : Option Nat} (hg : A.grownBy B row) (hn : n ≤ A.heap.size) (hr : ∀ r, row = some r → n ≤ r) : Kq n B0 A B :=
  ⟨hg.os, hg.tape, hg.output, hg.size, fun b hb _ => hg.block b (by omega) (fun e => by have := hr b e.symm; omega)⟩
theorem Kq.below {n B0 : Nat} {A B : World} (h : Below A.heap.size A B) (hn : n ≤ A.heap.size) : Kq n B0 A B := ⟨h.os, h.tape, h.output, h.size, fun b hb _ => h.block b (by omega)⟩
theorem Kq.set {n B0 : Nat} {A : World} (u : Value) : Kq n B0 A (A.setCell ⟨B0, 0, none⟩ u) := ⟨rfl, rfl, rfl, by simp, fun b _ h2 => Below.heap_setCell _ _ _ b h2⟩
theorem Kq.put {n B0 : Nat} {w : World} (hn : n ≤ w.heap.size) (W : World) (l : Nat) (o o' : Obj) (hl : w.heap.size ≤ l) (_ : W.heap[l]? = some o) (_ : o.isCells = false) (_ : o.isWalk = false) : Kq n B0 W (W.putObj l o') :=
  ⟨rfl, rfl, rfl, by simp, fun b hb _ => World.putObj_heap_other (by omega)⟩
theorem below_grown {A B : World} (h : Below A.heap.size A B) : A.grownBy B none := ⟨h.os, h.tape, h.output, h.size, fun b hb _ => h.block b hb⟩

/-- What an entry's key is read as, whatever it is. -/
def vO : Option (V × Nat) → V
  | none => ⟨0, 0, 0, ⟨#[]⟩⟩
  | some p => p.1
def erO : Option (V × Nat) → Int
  | none => 11
  | some _ => 0
theorem splT_eq (o : Option (V × Nat)) : splT o = .tuple #[.agg #[.int .i64 (vO o).k, .int .i64 (vO o).n, .float .f64 (vO o).f, .string (vO o).s], .int .i64 ((tidV o : Nat) : Int), .int .i64 (erO o)] := by cases o <;> rfl
open Classical in
noncomputable def optOf (k : ByteArray) : Option (V × Nat) := if h : ∃ p, EntIs k.data.toList (some p) then some (Classical.choose h) else none
theorem opt_is {k : ByteArray} {o : Option (V × Nat)} (h : EntIs k.data.toList o) : optOf k = o := by
  cases o with
  | none =>
    unfold optOf
    rw [dif_neg (fun ⟨p, hp⟩ => by cases EntIs.one h hp)]
  | some p =>
    unfold optOf
    have hx : ∃ p, EntIs k.data.toList (some p) := ⟨p, h⟩
    rw [dif_pos hx]
    exact EntIs.one (Classical.choose_spec hx) h
theorem tid_opt (k : ByteArray) : tidOf k = tidV (optOf k) := by
  by_cases hx : ∃ p, EntIs k.data.toList (some p)
  · obtain ⟨p, hp⟩ := hx
    rw [tid_is hp, opt_is hp]
  · unfold tidOf optOf
    rw [dif_neg hx, dif_neg hx]; rfl
noncomputable def encE (k : ByteArray) : Array Value := #[.agg #[.int .i64 (vO (optOf k)).k, .int .i64 (vO (optOf k)).n, .float .f64 (vO (optOf k)).f, .string (vO (optOf k)).s], .int .i64 ((tidV (optOf k) : Nat) : Int)]

/-- The keys where a loop reads them. -/
structure Vw (base n B0 : Nat) (v1 : Value) (keys : List ByteArray) (W : World) : Prop where
  own : Mm.Own W base 9 v1 (Lf.strs keys)
  top : ∀ g, v1.ownBlock = some g → g < n ∧ g ≠ B0
  mx : Mx W
  mxb : 1 < n ∧ 1 ≠ B0
  n : n ≤ W.heap.size
theorem Vw.kq {base n B0 : Nat} {v1 : Value} {keys : List ByteArray} {A B : World} (h : Vw base n B0 v1 keys A) (hk : Kq n B0 A B) : Vw base n B0 v1 keys B :=
  ⟨h.own.keep (fun g hg => hk.block g (h.top g hg).1 (h.top g hg).2), h.top, by
    obtain ⟨m, hm⟩ := h.mx
    refine ⟨m, ?_⟩
    rw [← hm]
    simp only [World.cell?, hk.block _ h.mxb.1 h.mxb.2], h.mxb, Nat.le_trans h.n hk.size⟩
end Ix

set_option maxRecDepth 100000 in
set_option maxHeartbeats 4000000 in
theorem splitc_in (n : Nat) (hn : 1 ≤ n) (l Bs n1 B0 base g cp : Nat) (keys : List ByteArray) (hlen : keys.length ≤ 1000000) (hsz : ∀ k ∈ keys, k.size ≤ 50000) (J Jx : List ByteArray → World → Prop) (w0 : World)
    (hJ : AbidesFrom w0.heap.size J)
    (hY : ∀ pre x W, J pre W → pre.length < keys.length → YieldAt Fence.wide (n - 1) Tryz.prog l (Ix.encE x) W fun e W' =>
      (e = .returned (.bool true) ∧ J (pre ++ [x]) W' ∧ Ix.Kq n1 B0 W W') ∨ (e = .returned (.bool false) ∧ Jx (pre ++ [x]) W'))
    (hBs : w0.cell? ⟨Bs, 0, none⟩ = some (.slice (some ⟨g, 0, none⟩) keys.length cp)) (hV : Hid (Ix.Vw base n1 B0 (.slice (some ⟨g, 0, none⟩) keys.length cp) keys w0)) (h0 : J [] w0) :
    CallsIn Fence.wide n Tryz.prog 83 #[.func (.yield l) #[] #[], .pointer (some ⟨Bs, 0, none⟩)] w0 fun e W' => (∃ v, e = .returned v) ∧
      ((∃ ys, ys = keys ∧ J ys W') ∨ (∃ pre, pre <+: keys ∧ Jx pre W')) := by
  refine callsIn_of_wp Tryz.func83 rfl trivial ?_ rfl
  simp only [Tryz.ntmps83, List.size_toArray, List.length_cons, List.length_nil, Nat.reduceAdd, Nat.reduceSub, Array.replicate_succ, Array.replicate_zero, List.push_toArray, List.append_toArray, List.nil_append, List.cons_append]
  gi_wp2
  gi_loopw [10] (fun i wr => ∃ k : Nat, k ≤ keys.length ∧ i = .int .i64 k ∧ J (keys.take k) wr ∧ Hid (Ix.Vw base n1 B0 (.slice (some ⟨g, 0, none⟩) keys.length cp) keys wr))
    (fun i _ => keys.length - (intOf i).toNat)
  case atStart => exact ⟨0, Nat.zero_le _, rfl, h0, hV⟩
  case round =>
    obtain ⟨k, hk, rfl, hJs, hVr⟩ := hrel
    by_cases hlt : k < keys.length
    · obtain ⟨x, hx⟩ : ∃ x, keys[k]? = some x := ⟨keys[k], List.getElem?_eq_getElem hlt⟩
      have hcx : wr.cell? ⟨g, k, none⟩ = some (.string x) := (hVr.out.own.cell (Lf.strs_at hx)).1
      have hSP := split_any x wr hVr.out.mx (hsz x (List.mem_of_getElem? hx))
      have HSP := Mm.hid hSP
      clear hSP
      gi_wp2_with (refine ⟨trivial, ?_⟩; gi_at_call 84; refine (callsIn_wide.2 HSP.out).mono ?_; rintro e w2 ⟨o, he, ho, hb⟩; rw [Ix.splT_eq, ← Ix.opt_is ho] at he; subst he; obtain ⟨fn, tmps, assign, body, hy, hR⟩ := hY (keys.take k) x (w2.alloc (.cells #[.int .i64 (Ix.vO (Ix.optOf x)).k, .int .i64 (Ix.vO (Ix.optOf x)).n, .float .f64 (Ix.vO (Ix.optOf x)).f, .string (Ix.vO (Ix.optOf x)).s] 34)) (hJ _ _ _ none (hJ _ _ _ none hJs (Ix.below_grown hb) (fun _ e => (nomatch e))) (World.grownBy_alloc w2 _ none) (fun _ e => (nomatch e))) (by rw [List.length_take]; omega); unfold Ix.encE at hy; have HB2 := Mm.hid hb; clear hb HSP)
      refine hR.mono ?_
      have ht : keys.take (k + 1) = keys.take k ++ [x] := by rw [List.take_add_one, hx]; rfl
      rintro e W3 (⟨rfl, hJ3, hk3⟩ | ⟨rfl, hJx3⟩)
      · have hV3 := (hVr.out.kq ((Ix.Kq.below HB2.out hVr.out.n).trans ((Ix.Kq.below ((Below.refl _ w2).alloc (Nat.le_refl _) _) (Nat.le_trans hVr.out.n HB2.out.size)).trans hk3)))
        have HV3 := Mm.hid hV3
        clear hV3 hk3
        gi_wp2
        go_roundw
        case rel => exact ⟨k + 1, by omega, by simp, by rw [ht]; exact hJ3, HV3⟩
        case measure => simp [intOf]; omega
      · gi_wp2
        refine bodyPost_ret (results_none rfl _ _ _) rfl ?_
        exact ⟨⟨_, rfl⟩, .inr ⟨_, by rw [← ht]; exact List.take_prefix _ _, hJx3⟩⟩
    · obtain rfl : k = keys.length := by omega
      gi_wp2
      go_end0
      refine ⟨⟨_, rfl⟩, .inl ⟨_, rfl, ?_⟩⟩
      rw [List.take_length] at hJs
      exact hJs

end Go.Proofs.YtjnaafgiokdcbaaGreatDoor
