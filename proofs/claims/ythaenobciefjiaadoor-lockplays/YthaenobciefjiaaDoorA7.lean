/- barring: the loop over the sets. -/
import Derived.Test.YthaenobciefjiaaDoorA4
import Derived.Test.YthaenobciefjiaaDoorA6
import Derived.Test.YthaenobciefjiaaDoorJ6
namespace Go.Proofs.YthaenobciefjiaaDoor
open Go.RowKit Go.Maps Go.ChangeMaps Go.MapKept

namespace Mp
/-- The next entry of a map. -/
theorem wpList_next {α : Type} {mk : α → Lit} {P : Program} (w : World) {ops : Array Oper} {rest : List Oper} {o : Oper} {a : Act} {Q : Exit → Act → World → Prop}
    (hg : o.guard = none) (it : Operand) (hop : o.op = Op.next it false) (k : TypeId) (L : Keyed P k) (f : α → Option Value) (V : α → Value) (mkK : α → Value) (invK : ∀ key kl, keyOf P k key = some kl → ∃ x, key = mkK x ∧ kl = mk x) (hV : ∀ x v, f x = some v → v = V x)
    (b r n : Nat) (D : DataW Value) (left : Lit → Bool) (cnt : Nat) (hf : ∀ a, (∃ v, keyOf P k v = some (mk a)) → D.atKey (mk a) .nil = toD (f a))
    (hit : a.eval it = .pointer (some ⟨r, 0, none⟩)) (h : w.ranges P k Rv b r n D left cnt)
    (hDone : cnt = 0 → (∀ kl, left kl = false) → wpList P ops Q rest (a.put o.dst (.tuple #[.bool false])) w)
    (hMore : ∀ (x : α) (w' : World) (cnt' : Nat), keyOf P k (mkK x) = some (mk x) → left (mk x) = true → f x = some (V x) → w'.ranges P k Rv b r n D (fun z => left z && !z.sameKey (mk x)) cnt' → cnt' < cnt →
      w.grownBy w' (some r) → w'.heap.size = w.heap.size → (Instr.entry (.pointer (some ⟨r, 0, none⟩))).run P w' = .ok (.tuple #[mkK x, V x]) w' → wpList P ops Q rest (a.put o.dst (.tuple #[.bool true, mkK x, V x])) w') :
    wpList P ops Q (o :: rest) a w := by
  refine wpList_plain hg fun K' hK' => ?_
  unfold Oper.wp
  rcases h.next L o.type with ⟨h0, hl, hrun⟩ | ⟨key, v, kl, y, w', cnt', hkey, hlk, hv, hat, hrun, hrg, hlt, hgr, hsz, hen⟩
  · simp [execOp, hop, hit, hrun, Result.andThen]
    exact hK' _ _ (hDone h0 hl)
  · obtain ⟨x, rfl, rfl⟩ := invK key kl hkey
    have h4 : f x = some v := toD_inj (by rw [← hf x ⟨_, hkey⟩, hat]; cases hv; rfl)
    obtain rfl := hV x v h4
    simp [execOp, hop, hit, hrun, Result.andThen]
    exact hK' _ _ (hMore x w' cnt' hkey hlk h4 hrg hlt hgr hsz hen)
end Mp

namespace Lk
def wn (s : St) (o : Int) : Bytes := ((s.want o).map (·.1)).getD []
def wm (s : St) (o : Int) : Int := ((s.want o).map (·.2)).getD 0
variable {w : World} {tag : Nat → Option Lb} {p N : Nat} {s : St} {bs bw bq : Nat} {bi : Int → Nat} {sl : Bytes → Value}
theorem Tb.lookR (h : Tb w tag p N s bs bw bq bi sl) {x : Int} (hx : wfI x) : (Instr.lookup 58 (.map (some bw)) (.int .i64 x) false).run Tryd.prog w = .ok (.agg #[.string ⟨(wn s x).toArray⟩, .int .i64 (wm s x)]) w := by
  rw [h.lookW' hx]
  unfold wn wm
  cases s.want x <;> rfl
theorem Tb.lookO (h : Tb w tag p N s bs bw bq bi sl) {x : Int} (hx : wfI x) : (Instr.lookup 58 (.map (some bw)) (.int .i64 x) true).run Tryd.prog w = .ok (.tuple #[.agg #[.string ⟨(wn s x).toArray⟩, .int .i64 (wm s x)], .bool (s.want x).isSome]) w := by
  rw [h.lookW hx]
  unfold wn wm
  cases s.want x <;> rfl

/-- A box of a request that was handed in; all that lay ahead of it lies. -/
structure Bx (w W : World) (nm : Bytes) (m : Int) : Prop where
  box : W.heap[w.heap.size]? = some (.cells #[str nm, .int .i64 m] 64 (0, 0))
  bel : Below w.heap.size w W
theorem Bx.start (w : World) (nm : Bytes) (m : Int) : Bx w (w.alloc (.cells #[str nm, .int .i64 m] 64)) nm m := ⟨(MapKept.heap_alloc w _).1, (Below.refl _ _).alloc (Nat.le_refl _) _⟩
theorem Bx.lt {w W : World} {nm : Bytes} {m : Int} (h : Bx w W nm m) : w.heap.size < W.heap.size := (Array.getElem?_eq_some_iff.1 h.box).1
theorem Bx.grown {w W W' : World} {nm : Bytes} {m : Int} (h : Bx w W nm m) {row : Option Nat} (hg : W.grownBy W' row) (hr : ∀ k, row = some k → w.heap.size < k) : Bx w W' nm m :=
  ⟨(hg.block _ h.lt (fun e => by have := hr _ e.symm; omega)).trans h.box, h.bel.grown hg h.bel.size (fun k e => Nat.le_of_lt (hr k e))⟩
theorem Bx.alloc {w W : World} {nm : Bytes} {m : Int} (h : Bx w W nm m) (o : Obj) : Bx w (W.alloc o) nm m := h.grown (World.grownBy_alloc W o none) (fun _ e => nomatch e)
theorem Bx.drew {w W : World} {nm : Bytes} {m : Int} (h : Bx w W nm m) : Bx w W.drew nm m := ⟨h.box, h.bel.drew⟩
theorem Bx.b0 {w W : World} {nm : Bytes} {m : Int} (h : Bx w W nm m) : W.cell? ⟨w.heap.size, 0, none⟩ = some (str nm) := by simp [World.cell?, h.box]
theorem Bx.b1 {w W : World} {nm : Bytes} {m : Int} (h : Bx w W nm m) : W.cell? ⟨w.heap.size, 1, none⟩ = some (.int .i64 m) := by simp [World.cell?, h.box]

/-- Those of the sets who bar it. -/
def barH (s : St) (x : Int) (nm : Bytes) (m : Int) (o : Int) : Bool := o != x && s.hol o && Md.anyB (s.set o nm) m
theorem invI : ∀ key kl, keyOf Tryd.prog 3 key = some kl → ∃ x, key = Value.int .i64 x ∧ kl = iK x := fun key kl h => by
  obtain ⟨x, h1, h2, _⟩ := Maps.keyOf_int_inv Tryd.underlying3 h
  exact ⟨x, h1, h2⟩
theorem wf_of {x : Int} (h : keyOf Tryd.prog 3 (.int .i64 x) = some (iK x)) : wfI x := by
  obtain ⟨y, h1, _, h3⟩ := Maps.keyOf_int_inv Tryd.underlying3 h
  injection h1 with _ e
  subst e
  have e1 : IntKind.i64.min = -9223372036854775808 := by decide
  have e2 : IntKind.i64.max = 9223372036854775807 := by decide
  simp only [Lit.wf, e1, e2, Bool.and_eq_true, decide_eq_true_eq] at h3
  exact h3
end Lk

end Go.Proofs.YthaenobciefjiaaDoor
