/- New, give. -/
import Derived.Test.YthaenobciefjiaaDoorA2
import Derived.Deep.RegionHeld3
import Derived.Maps.AppendAt
namespace Go.Proofs.YthaenobciefjiaaDoor
open Go.RowKit Go.Maps Go.ChangeMaps Go.MapKept

namespace Mp
/-- m[k] = v, as one step of a region that draws. -/
theorem step_update {α : Type} [DecidableEq α] {mk : α → Lit} {P : Program} {ops : Array Oper} {o : Oper} {a : Act} {w : World} {K : Act → World → Prop} {Q : Exit → Act → World → Prop} {E : Prop}
    (hgd : o.guard = none) (m x v : Operand) (t : TypeId) (hop : o.op = Op.mapUpdate t m x v) (k e : TypeId) (hmk : ∀ x y : α, mk x = mk y → x = y) (L : Keyed P k) (ht : P.underlying t = some (.map k e)) (b n : Nat) (f : α → Option Value)
    (hm : a.eval m = .map (some b)) (hF : Fn w P k mk b n f) (hn : n < maxLen) (key val : Value) (y : α) (hx : a.eval x = key) (hv : a.eval v = val) (hkey : keyOf P k key = some (mk y))
    (hK : ∀ w', Fn w' P k mk b (n + 1) (up f y (some val)) → w.mapTurned w' b → K (a.put o.dst undef) w') :
    if Region.wanted o (yielded ops a.tmps) = true then Oper.wp P o a w K Q else E := by
  have hw : Region.wanted o (yielded ops a.tmps) = true := by simp [Region.wanted, hgd]
  rw [if_pos hw]
  obtain ⟨w', hrun, h1, h2⟩ := hF.store hmk L ht hn hkey val
  unfold Oper.wp
  simp [execOp, hop, hm, hx, hv, hrun, Result.andThen]
  exact hK _ h1 h2
/-- .. and in a region that does not draw. -/
theorem wpList_update {α : Type} [DecidableEq α] {mk : α → Lit} {P : Program} (w : World) {ops : Array Oper} {rest : List Oper} {o : Oper} {a : Act} {Q : Exit → Act → World → Prop}
    (hg : o.guard = none) (m x v : Operand) (t : TypeId) (hop : o.op = Op.mapUpdate t m x v) (k e : TypeId) (hmk : ∀ x y : α, mk x = mk y → x = y) (L : Keyed P k) (ht : P.underlying t = some (.map k e)) (b n : Nat) (f : α → Option Value)
    (hm : a.eval m = .map (some b)) (hF : Fn w P k mk b n f) (hn : n < maxLen) (key val : Value) (y : α) (hx : a.eval x = key) (hv : a.eval v = val) (hkey : keyOf P k key = some (mk y))
    (hK : ∀ w', Fn w' P k mk b (n + 1) (up f y (some val)) → w.mapTurned w' b → wpList P ops Q rest (a.put o.dst undef) w') :
    wpList P ops Q (o :: rest) a w := by
  refine wpList_plain hg fun K' hK' => ?_
  obtain ⟨w', hrun, r1, r2⟩ := hF.store hmk L ht hn hkey val
  unfold Oper.wp
  simp [execOp, hop, hm, hx, hv, hrun, Result.andThen]
  exact hK' _ _ (hK w' r1 r2)
/-- delete(m, k). -/
theorem wpList_drop {α : Type} [DecidableEq α] {mk : α → Lit} {P : Program} (w : World) {ops : Array Oper} {rest : List Oper} {o : Oper} {a : Act} {Q : Exit → Act → World → Prop}
    (hg : o.guard = none) (m x : Operand) (t k : TypeId) (hop : o.op = Op.call { callee := Callee.builtin Builtin.delete, args := #[m, x], argTypes := #[t, k] }) (e : TypeId) (hmk : ∀ x y : α, mk x = mk y → x = y) (L : Keyed P k) (ht : P.underlying t = some (.map k e)) (b n : Nat) (f : α → Option Value)
    (hm : a.eval m = .map (some b)) (hF : Fn w P k mk b n f) (key : Value) (y : α) (hx : a.eval x = key) (hkey : keyOf P k key = some (mk y))
    (hK : ∀ w', Fn w' P k mk b n (up f y none) → w.mapTurned w' b → wpList P ops Q rest (a.put o.dst (.tuple #[])) w') :
    wpList P ops Q (o :: rest) a w := by
  refine wpList_plain hg fun K' hK' => ?_
  obtain ⟨w', hrun, r1, r2⟩ := hF.drop hmk L ht hkey o.type
  unfold Oper.wp
  simp [execOp, hop, resolve, invoke, builtin, hm, hx, hrun, Result.andThen]
  exact hK' _ _ (hK w' r1 r2)
end Mp

namespace Lk
/-- From world to world: nothing that is not the table's has turned. -/
structure Ev (tag tag' : Nat → Option Lb) (w w' : World) : Prop where
  os : w'.os = w.os
  tape : w'.tape = w.tape
  output : w'.output = w.output
  size : w.heap.size ≤ w'.heap.size
  block : ∀ b, b < w.heap.size → tag b = none → w'.heap[b]? = w.heap[b]?
  tags : ∀ b, b < w.heap.size → tag b = none → tag' b = none
theorem Ev.refl (tag : Nat → Option Lb) (w : World) : Ev tag tag w w := ⟨rfl, rfl, rfl, Nat.le_refl _, fun _ _ _ => rfl, fun _ _ h => h⟩
theorem Ev.trans {t1 t2 t3 : Nat → Option Lb} {a b c : World} (h : Ev t1 t2 a b) (k : Ev t2 t3 b c) : Ev t1 t3 a c :=
  ⟨k.os.trans h.os, k.tape.trans h.tape, k.output.trans h.output, Nat.le_trans h.size k.size, fun i hi ht => (k.block i (Nat.lt_of_lt_of_le hi h.size) (h.tags i hi ht)).trans (h.block i hi ht), fun i hi ht => k.tags i (Nat.lt_of_lt_of_le hi h.size) (h.tags i hi ht)⟩
theorem Ev.below {t : Nat → Option Lb} {a b : World} (h : Below a.heap.size a b) : Ev t t a b := ⟨h.os, h.tape, h.output, h.size, fun i hi _ => h.block i hi, fun _ _ h => h⟩
theorem Ev.turned {t : Nat → Option Lb} {a c : World} {b : Nat} {l : Lb} (h : a.mapTurned c b) (ht : t b = some l) : Ev t t a c := by
  obtain ⟨h1, h2, h3, h4, h5⟩ := Mp.turned_block h
  exact ⟨h3, h4, h5, Nat.le_of_eq h1.symm, fun i hi hn => h2 i (fun e => by rw [e, ht] at hn; cases hn), fun _ _ h => h⟩
theorem Ev.drew {t t' : Nat → Option Lb} {a b : World} (h : Ev t t' a b) : Ev t t' a b.drew := ⟨h.os, h.tape, h.output, h.size, h.block, h.tags⟩

variable {w : World} {tag : Nat → Option Lb} {p N : Nat} {s : St} {bs bw bq : Nat} {bi : Int → Nat} {sl : Bytes → Value}

theorem apart {tag : Nat → Option Lb} {a b : Nat} {l l' : Lb} (h : tag a = some l) (h' : tag b = some l') (hne : l ≠ l') : a ≠ b := fun e => hne (by rw [e, h'] at h; injection h.symm)

theorem Tb.mono (h : Tb w tag p N s bs bw bq bi sl) {M : Nat} (hm : N ≤ M) : Tb w tag p M s bs bw bq bi sl :=
  ⟨h.cell, h.tp, h.ts, h.tw, h.tq, h.ti, h.top, h.sets.mono hm, fun x hx => (h.inner x hx).mono hm, h.wants.mono hm, h.queues.mono hm, h.rows, h.lo, h.nh, fun nm => Nat.le_trans (h.qn nm) hm, h.hw, h.qw⟩
theorem Tb.drew (h : Tb w tag p N s bs bw bq bi sl) : Tb w.drew tag p N s bs bw bq bi sl := h.kept (Nat.le_refl _) (fun _ _ _ => rfl)
theorem Tb.alloc (h : Tb w tag p N s bs bw bq bi sl) (o : Obj) : Tb (w.alloc o) tag p N s bs bw bq bi sl := h.below ((Below.refl _ _).alloc (Nat.le_refl _) o)
theorem Tb.lt (h : Tb w tag p N s bs bw bq bi sl) : p < w.heap.size := (Array.getElem?_eq_some_iff.1 h.cell).1

theorem row_kept {w' : World} {v : Value} {n : Nat} {xs : List Value} (h : w.ownsRow 0 3 1 v n xs) (hk : ∀ g, v.ownBlock = some g → w'.heap[g]? = w.heap[g]?) : w'.ownsRow 0 3 1 v n xs := by
  obtain ⟨h1, h2⟩ := h
  refine ⟨h1, ?_⟩
  rcases h2 with h2 | ⟨g, cap, cur, e, hb, hg, r⟩
  · exact Or.inl h2
  · exact Or.inr ⟨g, cap, cur, e, hb, (hk g (by rw [e]; rfl)).trans hg, r⟩

def giveS (s : St) (x : Int) (nm : Bytes) (v : Nat) : St := { s with set := fun y k => if y = x ∧ k = nm then v else s.set y k }
def holS (s : St) (x : Int) : St := { s with hol := fun y => if y = x then true else s.hol y }

/-- A store into what a holder has. -/
theorem Tb.putSet (h : Tb w tag p N s bs bw bq bi sl) {x : Int} (hh : s.hol x = true) {w' : World} (ht : w.mapTurned w' (bi x)) {nm : Bytes} {v : Nat} (hv : 0 < v) (hv2 : v < 512)
    (hf : Mp.Fn w' Tryd.prog 9 sK (bi x) (N + 1) (Mp.up (fun nm => if s.set x nm = 0 then none else some (.int .i64 (s.set x nm))) nm (some (.int .i64 (v : Int))))) :
    Tb w' tag p (N + 1) (giveS s x nm v) bs bw bq bi sl := by
  obtain ⟨h1, h2, h3, h4, h5⟩ := Mp.turned_block ht
  have hx := h.ti x hh
  have k : ∀ b l, tag b = some l → l ≠ .i x → w'.heap[b]? = w.heap[b]? := fun b l e hl => h2 b (apart e hx hl)
  refine ⟨(k p _ h.tp (by simp)).trans h.cell, h.tp, h.ts, h.tw, h.tq, h.ti, fun b hb => h.top b (by omega), (h.sets.kept (k _ _ h.ts (by simp))).mono (Nat.le_succ _), fun y hy => ?_, (h.wants.kept (k _ _ h.tw (by simp))).mono (Nat.le_succ _), (h.queues.kept (k _ _ h.tq (by simp))).mono (Nat.le_succ _), fun n hn => ?_, fun y n => ?_, fun y n hy => ?_, fun n => Nat.le_succ_of_le (h.qn n), h.hw, h.qw⟩
  · by_cases e : y = x
    · subst e
      refine hf.ext (fun n _ => ?_)
      by_cases e2 : n = nm
      · subst e2; simp [Mp.up, giveS]; omega
      · simp [Mp.up, giveS, e2]
    · refine (((h.inner y hy).kept (k _ _ (h.ti y hy) (fun e2 => e (by injection e2)))).mono (Nat.le_succ _)).ext (fun n _ => ?_)
      simp [giveS, e]
  · obtain ⟨r1, r2⟩ := h.rows n hn
    exact ⟨row_kept r1 (fun g hg => k g _ (r2 g hg) (by simp)), r2⟩
  · show (if y = x ∧ n = nm then v else s.set y n) < 512
    by_cases e : y = x ∧ n = nm
    · rw [if_pos e]; exact hv2
    · rw [if_neg e]; exact h.lo y n
  · show (if y = x ∧ n = nm then v else s.set y n) = 0
    have hy' : s.hol y = false := hy
    rw [if_neg (fun e => by rw [e.1, hh] at hy'; cases hy')]
    exact h.nh y n hy'

/-- A holder that had nothing has a map of its own. -/
theorem Tb.putHol (h : Tb w tag p N s bs bw bq bi sl) {x : Int} (hwx : wfI x) (hh : s.hol x = false) {w' : World} (ht : (w.alloc (.map #[] 0)).mapTurned w' bs)
    (hf : Mp.Fn w' Tryd.prog 3 iK bs (N + 1) (Mp.up (fun h => if s.hol h then some (.map (some (bi h))) else none) x (some (.map (some w.heap.size))))) :
    Tb w' (fun b => if b = w.heap.size then some (.i x) else tag b) p (N + 1) (holS s x) bs bw bq (fun y => if y = x then w.heap.size else bi y) sl ∧ Ev tag (fun b => if b = w.heap.size then some (.i x) else tag b) w w' := by
  have ha := h.alloc (.map #[] 0)
  have hts : tag bs = some .s := h.ts
  obtain ⟨h1, h2, h3, h4, h5⟩ := Mp.turned_block ht
  simp only [World.size_alloc] at h1
  have hold : ∀ b, b < w.heap.size → (w.alloc (.map #[] 0)).heap[b]? = w.heap[b]? := fun b hb => Below.heap_alloc _ _ b hb
  have hnew : (w.alloc (.map #[] 0)).heap[w.heap.size]? = some (.map #[] 0) := (MapKept.heap_alloc w _).1
  have htag : ∀ b l, tag b = some l → b ≠ w.heap.size := fun b l e hb => by rw [h.top b (by omega)] at e; cases e
  have k : ∀ b l, tag b = some l → l ≠ .s → w'.heap[b]? = (w.alloc (.map #[] 0)).heap[b]? := fun b l e hl => h2 b (apart e hts hl)
  have tg : ∀ b l, tag b = some l → (if b = w.heap.size then some (.i x) else tag b) = some l := fun b l e => by rw [if_neg (htag b l e)]; exact e
  refine ⟨⟨(k p _ h.tp (by simp)).trans ha.cell, tg _ _ h.tp, tg _ _ h.ts, tg _ _ h.tw, tg _ _ h.tq, fun y hy => ?_, fun b hb => ?_, hf.ext (fun y _ => ?_), fun y hy => ?_, (ha.wants.kept (k _ _ h.tw (by simp))).mono (Nat.le_succ _), (ha.queues.kept (k _ _ h.tq (by simp))).mono (Nat.le_succ _), fun n hn => ?_, h.lo, fun y n hy => ?_, fun n => Nat.le_succ_of_le (h.qn n), fun y hy => ?_, h.qw⟩, ?_⟩
  · by_cases e : y = x
    · subst e; simp
    · have hy' : s.hol y = true := by simpa [holS, e] using hy
      simp only [e, if_false]; exact tg _ _ (h.ti y hy')
  · show (if b = w.heap.size then _ else tag b) = none
    rw [if_neg (by omega)]; exact h.top b (by omega)
  · by_cases e : y = x
    · subst e; simp [Mp.up, holS]
    · simp [Mp.up, holS, e]
  · by_cases e : y = x
    · subst e
      have hm := Mp.Fn.made (α := Bytes) w Tryd.prog 9 sK
      have hm' : Mp.Fn w' Tryd.prog 9 sK w.heap.size 0 (fun _ : Bytes => none) := hm.kept (h2 _ (fun e => htag _ _ hts e.symm))
      simp only [if_true]
      refine (hm'.mono (Nat.zero_le _)).ext (fun n _ => ?_)
      have : s.set y n = 0 := h.nh y n hh
      simp [holS, this]
    · have hy' : s.hol y = true := by simpa [holS, e] using hy
      simp only [e, if_false]
      exact ((ha.inner y hy').kept (k _ _ (h.ti y hy') (by simp))).mono (Nat.le_succ _)
  · obtain ⟨r1, r2⟩ := ha.rows n hn
    exact ⟨row_kept r1 (fun g hg => k g _ (r2 g hg) (by simp)), fun g hg => tg _ _ (r2 g hg)⟩
  · refine h.nh y n ?_
    by_cases e : y = x
    · subst e; exact hh
    · simpa [holS, e] using hy
  · by_cases e : y = x
    · rw [e]; exact hwx
    · exact h.hw y (by simpa [holS, e] using hy)
  · refine ⟨h3, h4, h5, by omega, fun b hb hn => (h2 b (fun e => by rw [e, hts] at hn; cases hn)).trans (hold b hb), fun b hb hn => (if_neg (by omega)).trans hn⟩
end Lk

end Go.Proofs.YthaenobciefjiaaDoor
