/- rows, Rows. -/
import Derived.Test.YtoobljkjhpkghaaHc1
namespace Go.Proofs.Ytoobljkjhpkghaa
open Go.RowKit

namespace Hp
/-- A row, and where it lies. -/
structure Rz where
  p : Option Addr
  c : Nat
  xs : List Vl.V
def Rz.v (z : Rz) : Value := .slice z.p z.xs.length z.c
/-- Rows of one's own, in a row of one's own. -/
structure RwsIn (w : World) (base : Nat) (v : Value) (zs : List Rz) : Prop where
  own : Mm.Own w base 37 v (zs.map Rz.v)
  rows : ∀ z ∈ zs, w.ownsRow base 50 4 z.v z.xs.length (Vl.cellsV z.xs)
  sep : ∀ z ∈ zs, ∀ g, z.v.ownBlock = some g → v.ownBlock ≠ some g
theorem RwsIn.keep {w w' : World} {base : Nat} {v : Value} {zs : List Rz} (h : RwsIn w base v zs) (hk : ∀ g, base ≤ g → g < w.heap.size → w'.heap[g]? = w.heap[g]?) : RwsIn w' base v zs :=
  ⟨h.own.keep (fun g hg => hk g (h.own.lt hg).2 (h.own.lt hg).1), fun z hz => ownKeep (h.rows z hz) (fun g hg => hk g (ownLt (h.rows z hz) hg).1 (ownLt (h.rows z hz) hg).2), h.sep⟩
theorem RwsIn.below {w w' : World} {base : Nat} {v : Value} {zs : List Rz} (h : RwsIn w base v zs) (hb : Below w.heap.size w w') : RwsIn w' base v zs := h.keep (fun g _ hg => hb.block g hg)
theorem RwsIn.base {w : World} {base b' : Nat} {v : Value} {zs : List Rz} (h : RwsIn w base v zs) (hb : b' ≤ base) : RwsIn w b' v zs := ⟨h.own.base hb, fun z hz => ownBase (h.rows z hz) hb, h.sep⟩
theorem RwsIn.start (w : World) (base : Nat) : RwsIn w base (.slice none 0 0) [] := ⟨Mm.Own.nil _ _ _, fun z h => (by simp at h), fun z h => (by simp at h)⟩
theorem RwsIn.app {w w' : World} {base : Nat} {v v3 : Value} {zs : List Rz} {z : Rz} (h : RwsIn w base v zs) (hz : w.ownsRow base 50 4 z.v z.xs.length (Vl.cellsV z.xs)) (hs : ∀ g, z.v.ownBlock = some g → v.ownBlock ≠ some g)
    (ho : Mm.Own w' base 37 v3 (zs.map Rz.v ++ [z.v])) (hg : w.grownBy w' v.ownBlock) (hl : v3.ownBlock = v.ownBlock ∨ ∀ g, v3.ownBlock = some g → w.heap.size ≤ g) : RwsIn w' base v3 (zs ++ [z]) := by
  refine ⟨by rw [List.map_append]; exact ho, fun y hy => ?_, fun y hy g hyg => ?_⟩
  · rcases List.mem_append.1 hy with hy | hy
    · exact ownKeep (h.rows y hy) (fun g hyg => hg.block g (ownLt (h.rows y hy) hyg).2 (fun e => h.sep y hy g hyg e.symm))
    · rw [List.mem_singleton.1 hy]
      exact ownKeep hz (fun g hyg => hg.block g (ownLt hz hyg).2 (fun e => hs g hyg e.symm))
  · have hlt : g < w.heap.size ∧ v.ownBlock ≠ some g := by
      rcases List.mem_append.1 hy with hy | hy
      · exact ⟨(ownLt (h.rows y hy) hyg).2, h.sep y hy g hyg⟩
      · rw [List.mem_singleton.1 hy] at hyg
        exact ⟨(ownLt hz hyg).2, hs g hyg⟩
    rcases hl with hl | hl
    · rw [hl]; exact hlt.2
    · intro e; have := hl g e; omega
set_option maxRecDepth 100000 in
theorem rowInfo : ∃ i, Try.prog.info? 37 = some i ∧ i.zero = some (.slice none 0 0) ∧ i.size = 1 ∧ i.bytes = 24 := ⟨_, Try.type37, rfl, rfl, rfl⟩
/-- append of a row to rows. -/
theorem appZ {ops : Array Oper} {rest : List Oper} {o : Oper} {a : Act} {Q : Exit → Act → World → Prop} (w0 : World) (hgd : o.guard = none) (s x : Operand)
    (ho : o.op = .call { callee := .builtin .append, args := #[s, x], argTypes := #[69, 69] }) (base : Nat) (v : Value) (p : Option Addr) (n c : Nat) (xs : List Value) (hs : a.eval s = v) (hown : Mm.Own w0 base 37 v xs) (B : Nat) (hx : a.eval x = .slice (some ⟨B, 0, none⟩) 1 1) (hB : B = w0.heap.size) (hlen : xs.length < 1000000) (hbase : base ≤ w0.heap.size)
    (h : ∀ v' w', Mm.Own w' base 37 v' (xs ++ [.slice p n c]) → w0.grownBy w' v.ownBlock → (v'.ownBlock = v.ownBlock ∨ ∀ g, v'.ownBlock = some g → w0.heap.size ≤ g) → wpList Try.prog ops Q rest (a.put o.dst v') w') : wpList Try.prog ops Q (o :: rest) a (w0.alloc (.cells #[.slice p n c] 37)) := by
  obtain ⟨i, h1, h2, h3, h4⟩ := rowInfo
  exact Mm.app1 w0 hgd s x 69 37 i _ 24 Try.underlying69 h1 h2 h3 h4 rfl (by decide) ho base v _ xs hs hown rfl B hx hB hlen hbase h
/-- What one sees, in order. -/
def rowsL (s : Cg.S) (x : Int) (l : List Ver) : List (List Vl.V) := (l.filter (seen s x)).map Ver.xs
end Hp

set_option maxRecDepth 100000 in
set_option maxHeartbeats 2000000 in
theorem rows_any (w : World) (base : Nat) (v lv : Value) (r : Hp.R) (s : Cg.S) (x : Int) (hR : Hid (Hp.Rv w base v r)) (hI : Hid (Hp.Inv r)) (h : Hid (Mm.Lv w lv s)) (hn : s.n ≤ 200) :
    Calls Try.prog 31 #[lv, v, .int .i64 x] w fun e w' => ∃ v' zs, e = .returned v' ∧ Hp.RwsIn w' w.heap.size v' zs ∧ zs.map Hp.Rz.xs = Hp.rowsL s x r.vs ∧ Below w.heap.size w w' := by
  go_enter Try.func31, Try.ntmps31
  go_wp2_with fail
  refine (visible_any w base v lv r s x hR hI h hn).mono ?_
  rintro e w1 ⟨v1, rfl, ho, hb⟩
  obtain ⟨q, c, hq, -, -, -, -⟩ := ho.shape
  obtain ⟨n, hN⟩ : ∃ n, n = (r.vs.filter (Hp.seen s x)).length := ⟨_, rfl⟩
  rw [Mm.nts_len, show (Hp.visL s x r.vs).length = n from by unfold Hp.visL; rw [Hp.tidsL_len, hN]] at hq
  subst hq
  have HN := Vl.hid hN
  have hn5 : n ≤ 512 := by rw [hN]; exact Nat.le_trans (List.length_filter_le _ _) hI.out.len
  have HO := Vl.hid ho
  have HB := Vl.hid hb
  clear ho hb hN
  go_wp2_with fail
  go_loopw [7, 9] (fun vo vi wq => ∃ (i : Nat) (zs : List Hp.Rz), i ≤ n ∧ vi = .int .i64 (i : Int) ∧ Hid (Hp.RwsIn wq w1.heap.size vo zs) ∧ Hid (zs.map Hp.Rz.xs = ((r.vs.filter (Hp.seen s x)).take i).map Hp.Ver.xs) ∧ Hid (Below w1.heap.size w1 wq)) (fun vo vi _ => n - (RowKit.intOf vi).toNat)
  case atStart => exact ⟨0, [], by omega, rfl, Vl.hid (Hp.RwsIn.start _ _), Vl.hid rfl, Vl.hid (Below.refl _ _)⟩
  case round =>
    have HBB := HB
    clear HB
    obtain ⟨i, zs, hi, rfl, HZ, HE, HB1⟩ := hrel
    rename World => wq
    have HB := Vl.hid (HBB.out.trans (HB1.out.mono HBB.out.size))
    by_cases him : i < n
    · obtain ⟨u, hu⟩ : ∃ u, (r.vs.filter (Hp.seen s x))[i]? = some u := ⟨_, List.getElem?_eq_getElem (by rw [← HN.out]; exact him)⟩
      have hm : u ∈ r.vs := (List.mem_filter.1 (List.mem_of_getElem? hu)).1
      obtain ⟨k, hk⟩ := List.getElem?_of_mem hm
      have hfs : Hp.fnd r.vs (u.tid : Int) = some u := Hp.fnd_at hI.out.up hk
      have CG : Hid (∀ wz, Hid (Hp.Rv wz base v r) → Calls Try.prog 37 #[v, .int .i64 (u.tid : Int)] wz fun e w' => ∃ p c, e = .returned (.tuple #[.agg #[.int .i64 u.xmin, .int .i64 u.xmax, .slice p u.xs.length c], .bool true]) ∧ w'.ownsRow wz.heap.size 50 4 (.slice p u.xs.length c) u.xs.length (Vl.cellsV u.xs) ∧ Below wz.heap.size wz w') := Vl.hid (fun wz hz => by
        have hg := get_any wz base v r (u.tid : Int) hz hI
        rw [show Hp.fndD r.vs (u.tid : Int) = u from by unfold Hp.fndD; rw [hfs]; rfl, hfs] at hg
        exact hg)
      have HT : Hid (((r.vs.filter (Hp.seen s x)).take (i + 1)).map Hp.Ver.xs = ((r.vs.filter (Hp.seen s x)).take i).map Hp.Ver.xs ++ [u.xs]) := Vl.hid (by rw [List.take_add_one, hu, List.map_append]; rfl)
      have hvi : (Hp.visL s x r.vs)[i]? = some u.tid := by unfold Hp.visL Hp.tidsL; rw [List.getElem?_map, hu]; rfl
      obtain ⟨g, cg, e1, -, d0, -, -⟩ := (HO.out.below HB1.out).at (Mm.nts_at hvi)
      replace e1 : q = some ⟨g, 0, none⟩ := by injection e1
      subst e1
      have HRq := Vl.hid (hR.out.below HB.out)
      have HLEN : Hid ((zs.map Hp.Rz.v).length < 1000000) := Vl.hid (by
        have := congrArg List.length HE.out
        rw [List.length_map, List.length_map, List.length_take] at this
        rw [List.length_map]; omega)
      have j1 : (i : Int) < (n : Int) := by omega
      have j2 : (0 : Int) ≤ (i : Int) := by omega
      clear hu hm hk hfs hvi
      go_wp2_with fail
      refine (CG.out _ HRq).mono ?_
      rintro e w3 ⟨p3, c3, rfl, hown, hb⟩
      have HB31 := Vl.hid (HB1.out.trans (hb.mono HB1.out.size))
      have HZ3 := Vl.hid (HZ.out.below hb)
      have HS3 : Hid (∀ g, (Value.slice p3 u.xs.length c3).ownBlock = some g → wq.heap.size ≤ g) := Vl.hid (fun g hg => (Hp.ownLt hown hg).1)
      have HO3 := Vl.hid (Hp.ownBase hown HB1.out.size)
      clear hown hb d0
      have HB41 : Hid (Below w1.heap.size w1 (w3.alloc (.cells #[.int .i64 u.xmin, .int .i64 u.xmax, .slice p3 u.xs.length c3] 79))) := Vl.hid (HB31.out.alloc HB31.out.size _)
      have HZ4 : Hid (Hp.RwsIn (w3.alloc (.cells #[.int .i64 u.xmin, .int .i64 u.xmax, .slice p3 u.xs.length c3] 79)) w1.heap.size u7 zs) := Vl.hid (HZ3.out.below ((Below.refl _ _).alloc (Nat.le_refl _) _))
      have HO4 : Hid ((w3.alloc (.cells #[.int .i64 u.xmin, .int .i64 u.xmax, .slice p3 u.xs.length c3] 79)).ownsRow w1.heap.size 50 4 (.slice p3 u.xs.length c3) u.xs.length (Vl.cellsV u.xs)) := Vl.hid (Vl.own_below HO3.out ((Below.refl _ _).alloc (Nat.le_refl _) _))
      have HS4 : Hid (∀ g, (Value.slice p3 u.xs.length c3).ownBlock = some g → u7.ownBlock ≠ some g) := Vl.hid (fun g hg e => by
        have := HS3.out g hg
        have := (HZ.out.own.lt e).1
        omega)
      go_wp2_with (at_builtin; first
        | (refine Hp.appZ (w3.alloc (.cells #[.int .i64 u.xmin, .int .i64 u.xmax, .slice p3 u.xs.length c3] 79)) rfl _ _ rfl w1.heap.size u7 p3 u.xs.length c3 (zs.map Hp.Rz.v) rfl HZ4.out.own _ rfl (by simp) HLEN.out HB41.out.size ?_
           intro v5 w5 hown5 hg5 hloc5
           have HZ5 : Hid (Hp.RwsIn w5 w1.heap.size v5 (zs ++ [⟨p3, c3, u.xs⟩])) := Vl.hid (HZ4.out.app (z := ⟨p3, c3, u.xs⟩) HO4.out HS4.out hown5 hg5 hloc5)
           have HB51 : Hid (Below w1.heap.size w1 w5) := Vl.hid (HB41.out.grown hg5 HB41.out.size (fun g e => (HZ4.out.own.lt e).2))
           clear hown5 hg5 hloc5))
      exact ⟨⟨i + 1, _, by omega, by go_num, HZ5, Vl.hid (by rw [HT.out, List.map_append, HE.out]; rfl), HB51⟩, by simp [RowKit.intOf]; omega⟩
    · obtain rfl : i = n := by omega
      go_wp2_with fail
      go_ret
      exact ⟨_, zs, rfl, HZ.out.base HBB.out.size, by rw [HE.out, List.take_of_length_le (Nat.le_of_eq HN.out.symm)]; rfl, HB.out⟩
end Go.Proofs.Ytoobljkjhpkghaa
