/- What Vacuum and Copy leave alone; rows of rows of rows. -/
import Derived.Test.YtoobljkjhpkghaaHc3
namespace Go.Proofs.Ytoobljkjhpkghaa
open Go.RowKit

namespace Cg
theorem runs_head (f : Nat → Tx) : ∀ (n k : Nat) (l : List Nat), runs f n = k :: l → ∀ y ∈ runs f n, k ≤ y
  | 0, k, l, h, y, hy => by simp [runs] at h
  | n + 1, k, l, h, y, hy => by
    simp only [runs] at h hy
    cases hr : runs f n with
    | nil =>
      rw [hr, List.nil_append] at h hy
      rw [h] at hy
      split at h
      · cases h
        have : y = n + 1 := by simpa using hy
        omega
      · cases h
    | cons k' l' =>
      rw [hr] at h
      cases h
      rcases List.mem_append.1 hy with hy | hy
      · exact runs_head f n k _ hr y hy
      · have hk := (runs_in f n k (by rw [hr]; exact List.mem_cons_self ..)).2.1
        split at hy
        · have : y = n + 1 := by simpa using hy
          omega
        · cases hy
theorem horizon_le {s : S} (h : Inv s) {y : Nat} (hy : y ∈ running s) : horizon s ≤ (s.f y).snap := by
  unfold horizon
  cases hr : running s with
  | nil => rw [hr] at hy; cases hy
  | cons k l =>
    have hk := runs_in s.f s.n k (by have := hr; unfold running at this; rw [this]; exact List.mem_cons_self ..)
    have hy2 := runs_in s.f s.n y hy
    exact h.mono k y hk.1 (runs_head s.f s.n k l hr y hy) hy2.2.1
end Cg
namespace Hp
/-- Who runs sees nothing that goes. -/
theorem seen_stays {s : Cg.S} (h : Cg.Inv s) {y : Nat} (hy : y ∈ Cg.running s) {v : Ver} (hs : seen s (y : Int) v = true) : stays s v = true := by
  obtain ⟨y1, y2, y3⟩ := Cg.runs_in s.f s.n y hy
  have hg : Cg.gt s (y : Int) = s.f y := Cg.gt_in y1 y2
  have hz := Cg.horizon_le h hy
  unfold seen at hs
  rw [Bool.and_eq_true] at hs
  obtain ⟨h1, h2⟩ := hs
  unfold stays
  rw [Bool.and_eq_true]
  constructor
  · unfold Cg.sees at h1
    rw [Bool.and_eq_true, Bool.or_eq_true] at h1
    rcases h1.2 with h3 | h3
    · have e : (y : Int) = v.xmin := by simpa using h3
      rw [← e, hg, y3]; rfl
    · rw [Bool.and_eq_true] at h3
      have e : (Cg.gt s v.xmin).st = 2 := by simpa using h3.1
      rw [e]; rfl
  · by_cases e2 : (Cg.gt s v.xmax).st = 2
    · by_cases e3 : (Cg.gt s v.xmax).csn ≤ Cg.horizon s
      · exfalso
        have hsee : Cg.sees s (y : Int) v.xmax = true := by
          unfold Cg.sees
          rw [hg, y3, e2]
          have : (Cg.gt s v.xmax).csn ≤ (s.f y).snap := Nat.le_trans e3 hz
          simp [this]
        rw [hsee, e2] at h2
        simp at h2
      · simp [e3]
    · simp [e2]
theorem rowsL_vac {s : Cg.S} (h : Cg.Inv s) {y : Nat} (hy : y ∈ Cg.running s) (l : List Ver) : rowsL s (y : Int) (stayL s l) = rowsL s (y : Int) l := by
  unfold rowsL stayL
  rw [List.filter_filter]
  congr 1
  refine List.filter_congr (fun v _ => ?_)
  cases e : seen s (y : Int) v
  · rfl
  · rw [seen_stays h hy e]; rfl
theorem rowsL_renum (s : Cg.S) (x : Int) : ∀ (k : Nat) (l : List Ver), rowsL s x (renum k l) = rowsL s x l
  | _, [] => rfl
  | k, v :: l => by
    have ih := rowsL_renum s x (k + 1) l
    unfold rowsL at ih ⊢
    have e : seen s x { v with tid := k } = seen s x v := rfl
    simp only [renum, List.filter_cons, e]
    cases seen s x v
    · simpa using ih
    · simpa using ih
theorem rowsL_cop {s : Cg.S} (h : Cg.Inv s) {y : Nat} (hy : y ∈ Cg.running s) (r : R) : rowsL s (y : Int) (copS s r).vs = rowsL s (y : Int) r.vs := by
  show rowsL s (y : Int) (renum 0 (stayL s r.vs)) = _
  rw [rowsL_renum, rowsL_vac h hy]

/-- The blocks of rows. -/
def zblk (v : Value) (zs : List Rz) (g : Nat) : Prop := v.ownBlock = some g ∨ ∃ z ∈ zs, z.v.ownBlock = some g
theorem RwsIn.keepOn {w w' : World} {base : Nat} {v : Value} {zs : List Rz} (h : RwsIn w base v zs) (hk : ∀ g, zblk v zs g → w'.heap[g]? = w.heap[g]?) : RwsIn w' base v zs :=
  ⟨h.own.keep (fun g hg => hk g (Or.inl hg)), fun z hz => ownKeep (h.rows z hz) (fun g hg => hk g (Or.inr ⟨z, hz, hg⟩)), h.sep⟩
theorem RwsIn.blk {w : World} {base : Nat} {v : Value} {zs : List Rz} (h : RwsIn w base v zs) {g : Nat} (hg : zblk v zs g) : base ≤ g ∧ g < w.heap.size := by
  rcases hg with hg | ⟨z, hz, hg⟩
  · exact ⟨(h.own.lt hg).2, (h.own.lt hg).1⟩
  · exact ownLt (h.rows z hz) hg
structure Wz where
  p : Option Addr
  c : Nat
  zs : List Rz
def Wz.v (y : Wz) : Value := .slice y.p y.zs.length y.c
/-- Lists of rows of one's own, in a row of one's own. -/
structure WsIn (w : World) (base : Nat) (v : Value) (ys : List Wz) : Prop where
  own : Mm.Own w base 69 v (ys.map Wz.v)
  rows : ∀ y ∈ ys, RwsIn w base y.v y.zs
  sep : ∀ y ∈ ys, ∀ g, zblk y.v y.zs g → v.ownBlock ≠ some g
theorem WsIn.keep {w w' : World} {base : Nat} {v : Value} {ys : List Wz} (h : WsIn w base v ys) (hk : ∀ g, base ≤ g → g < w.heap.size → w'.heap[g]? = w.heap[g]?) : WsIn w' base v ys :=
  ⟨h.own.keep (fun g hg => hk g (h.own.lt hg).2 (h.own.lt hg).1), fun y hy => (h.rows y hy).keep hk, h.sep⟩
theorem WsIn.below {w w' : World} {base : Nat} {v : Value} {ys : List Wz} (h : WsIn w base v ys) (hb : Below w.heap.size w w') : WsIn w' base v ys := h.keep (fun g _ hg => hb.block g hg)
theorem WsIn.start (w : World) (base : Nat) : WsIn w base (.slice none 0 0) [] := ⟨Mm.Own.nil _ _ _, fun z h => (by simp at h), fun z h => (by simp at h)⟩
theorem WsIn.app {w w' : World} {base : Nat} {v v3 : Value} {ys : List Wz} {y : Wz} (h : WsIn w base v ys) (hy : RwsIn w base y.v y.zs) (hs : ∀ g, zblk y.v y.zs g → v.ownBlock ≠ some g)
    (ho : Mm.Own w' base 69 v3 (ys.map Wz.v ++ [y.v])) (hg : w.grownBy w' v.ownBlock) (hl : v3.ownBlock = v.ownBlock ∨ ∀ g, v3.ownBlock = some g → w.heap.size ≤ g) : WsIn w' base v3 (ys ++ [y]) := by
  refine ⟨by rw [List.map_append]; exact ho, fun u hu => ?_, fun u hu g hug => ?_⟩
  · rcases List.mem_append.1 hu with hu | hu
    · exact (h.rows u hu).keepOn (fun g hug => hg.block g ((h.rows u hu).blk hug).2 (fun e => h.sep u hu g hug e.symm))
    · rw [List.mem_singleton.1 hu]
      exact hy.keepOn (fun g hug => hg.block g (hy.blk hug).2 (fun e => hs g hug e.symm))
  · have hlt : g < w.heap.size ∧ v.ownBlock ≠ some g := by
      rcases List.mem_append.1 hu with hu | hu
      · exact ⟨((h.rows u hu).blk hug).2, h.sep u hu g hug⟩
      · rw [List.mem_singleton.1 hu] at hug
        exact ⟨(hy.blk hug).2, hs g hug⟩
    rcases hl with hl | hl
    · rw [hl]; exact hlt.2
    · intro e; have := hl g e; omega
set_option maxRecDepth 100000 in
theorem rowsInfo : ∃ i, Try.prog.info? 69 = some i ∧ i.zero = some (.slice none 0 0) ∧ i.size = 1 ∧ i.bytes = 24 := ⟨_, Try.type69, rfl, rfl, rfl⟩
theorem appY {ops : Array Oper} {rest : List Oper} {o : Oper} {a : Act} {Q : Exit → Act → World → Prop} (w0 : World) (hgd : o.guard = none) (s x : Operand)
    (ho : o.op = .call { callee := .builtin .append, args := #[s, x], argTypes := #[68, 68] }) (base : Nat) (v : Value) (p : Option Addr) (n c : Nat) (xs : List Value) (hs : a.eval s = v) (hown : Mm.Own w0 base 69 v xs) (B : Nat) (hx : a.eval x = .slice (some ⟨B, 0, none⟩) 1 1) (hB : B = w0.heap.size) (hlen : xs.length < 1000000) (hbase : base ≤ w0.heap.size)
    (h : ∀ v' w', Mm.Own w' base 69 v' (xs ++ [.slice p n c]) → w0.grownBy w' v.ownBlock → (v'.ownBlock = v.ownBlock ∨ ∀ g, v'.ownBlock = some g → w0.heap.size ≤ g) → wpList Try.prog ops Q rest (a.put o.dst v') w') : wpList Try.prog ops Q (o :: rest) a (w0.alloc (.cells #[.slice p n c] 69)) := by
  obtain ⟨i, h1, h2, h3, h4⟩ := rowsInfo
  exact Mm.app1 w0 hgd s x 68 69 i _ 24 Try.underlying68 h1 h2 h3 h4 rfl (by decide) ho base v _ xs hs hown rfl B hx hB hlen hbase h
/-- The rows are short. -/
def Short (r : R) : Prop := ∀ v ∈ r.vs, v.xs.length ≤ 50
theorem short0 : Short r0 := fun v h => by simp [r0] at h
theorem Short.ins {r : R} (h : Short r) (x : Int) (p : Option Addr) (c : Nat) {xs : List Vl.V} (hx : xs.length ≤ 50) : Short (insS r x p c xs) := by
  unfold insS
  split
  · exact h
  · split
    · exact h
    · intro v hv
      have hv' : v ∈ r.vs ++ [_] := hv
      rcases List.mem_append.1 hv' with hv' | hv'
      · exact h v hv'
      · rw [List.mem_singleton.1 hv']; exact hx
theorem Short.del {r : R} (h : Short r) (x t : Int) : Short (delS r x t) := by
  unfold delS
  split
  · exact h
  · intro v hv
    have hv' : v ∈ r.vs.map (endV t x) := hv
    obtain ⟨u, hu, rfl⟩ := List.mem_map.1 hv'
    rw [(endV_xs t x u).1]; exact h u hu
theorem Short.rows {r : R} (h : Short r) {s : Cg.S} {x : Int} {zs : List Rz} (he : zs.map Rz.xs = rowsL s x r.vs) : ∀ z ∈ zs, z.xs.length ≤ 50 := fun z hz => by
  have : z.xs ∈ rowsL s x r.vs := by rw [← he]; exact List.mem_map_of_mem hz
  obtain ⟨v, hv, e⟩ := List.mem_map.1 this
  rw [← e]; exact h v (List.mem_filter.1 hv).1
end Hp

theorem keepRows_gen (w : World) (b1 b2 : Nat) (p1 p2 : Option Addr) (n1 n2 c1 c2 : Nat) (z1 z2 : List Hp.Rz) (H1 : Hid (Hp.RwsIn w b1 (.slice p1 n1 c1) z1)) (H2 : Hid (Hp.RwsIn w b2 (.slice p2 n2 c2) z2)) (h1 : Hid (n1 = z1.length)) (h2 : Hid (n2 = z2.length)) (he : Hid (z1.map Hp.Rz.xs = z2.map Hp.Rz.xs)) (hs : Hid (∀ z ∈ z1, z.xs.length ≤ 100000)) (hn : Hid (n1 ≤ 100000)) :
    Calls Try.prog 32 #[.slice p1 n1 c1, .slice p2 n2 c2] w fun e w' => e = .returned (.bool true) ∧ Below w.heap.size w w' := by
  have e : n2 = n1 := by
    have := congrArg List.length he.out
    rw [List.length_map, List.length_map] at this
    rw [h1.out, h2.out, this]
  subst e
  exact keepRows_same w b1 b2 p1 p2 n2 c1 c2 z1 z2 H1 H2 h1 he hs hn.out
/-- rows, its answer by its shape. -/
theorem rows_shape (w : World) (base : Nat) (v lv : Value) (r : Hp.R) (s : Cg.S) (x : Int) (hR : Hid (Hp.Rv w base v r)) (hI : Hid (Hp.Inv r)) (h : Hid (Mm.Lv w lv s)) (hn : s.n ≤ 200) :
    Calls Try.prog 31 #[lv, v, .int .i64 x] w fun e w' => ∃ q c zs, e = .returned (.slice q zs.length c) ∧ Hp.RwsIn w' w.heap.size (.slice q zs.length c) zs ∧ zs.map Hp.Rz.xs = Hp.rowsL s x r.vs ∧ Below w.heap.size w w' := by
  refine (rows_any w base v lv r s x hR hI h hn).mono ?_
  rintro e w' ⟨v', zs, rfl, h1, h2, h3⟩
  obtain ⟨q, c, hq, -, -, -, -⟩ := h1.own.shape
  rw [List.length_map] at hq
  subst hq
  exact ⟨q, c, zs, rfl, h1, h2, h3⟩
end Go.Proofs.Ytoobljkjhpkghaa
