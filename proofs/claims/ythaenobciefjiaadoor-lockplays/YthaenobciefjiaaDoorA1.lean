/- Maps whose elements are whatever values, as functions of their keys. -/
import Derived.Test.YthaenobciefjiaaDoorRows
import Derived.WalkKit
import Derived.WalkSpells
import Derived.WalkLawsBesides
import Derived.Maps.OwnSet
import Derived.Maps.OwnOps
import Derived.Maps.RangeWalk
import Derived.Sort.KeysCollected
namespace Go.Proofs.YthaenobciefjiaaDoor
open Go.RowKit Go.Maps Go.ChangeMaps Go.MapKept Go.WideShapes Go.ChangeShapes

namespace Mp
/-- Puts a fact aside. -/
theorem hid {p : Prop} (h : p) : Hid p := h

/-- An element reads as itself. -/
def Rv (v : Value) : Option (DataW Value × List MemPlace) := some (.held v, [])

def toD : Option Value → DataW Value
  | some v => .held v
  | none => .nil
theorem toD_inj {a b : Option Value} (h : toD a = toD b) : a = b := by
  cases a <;> cases b <;> simp [toD] at h ⊢
  exact h

variable {P : Program} {k t e : TypeId} {b n : Nat} {w : World} {α : Type} {mk : α → Lit}

/-- Block b is a map that has f's values at its keys; at most n of them. -/
def Fn (w : World) (P : Program) (k : TypeId) (mk : α → Lit) (b n : Nat) (f : α → Option Value) : Prop :=
  ∃ D, w.ownsMap P k Rv b n D ∧ ∀ a, (∃ v, keyOf P k v = some (mk a)) → D.atKey (mk a) .nil = toD (f a)

theorem Fn.lt {f : α → Option Value} (h : Fn w P k mk b n f) : b < w.heap.size := let ⟨_, h, _⟩ := h; h.lt

theorem Fn.ext {f g : α → Option Value} (h : Fn w P k mk b n f) (hfg : ∀ a, (∃ v, keyOf P k v = some (mk a)) → f a = g a) : Fn w P k mk b n g := by
  obtain ⟨D, h1, h2⟩ := h
  exact ⟨D, h1, fun kl hk => by rw [h2 kl hk, hfg kl hk]⟩

theorem Fn.mono {f : α → Option Value} (h : Fn w P k mk b n f) {m : Nat} (hm : n ≤ m) : Fn w P k mk b m f := by
  obtain ⟨D, h1, h2⟩ := h
  exact ⟨D, h1.mono hm, h2⟩

theorem Fn.kept {f : α → Option Value} (h : Fn w P k mk b n f) {w' : World} (hb : w'.heap[b]? = w.heap[b]?) : Fn w' P k mk b n f := by
  obtain ⟨D, ⟨es, c, h0, h1, h3⟩, h2⟩ := h
  exact ⟨D, ⟨es, c, hb.trans h0, h1, h3⟩, h2⟩

theorem Fn.made (w : World) (P : Program) (k : TypeId) (mk : α → Lit) : Fn (w.alloc (.map #[] 0)) P k mk w.heap.size 0 (fun _ => none) :=
  ⟨_, World.ownsMap_made w P k Rv, fun _ _ => rfl⟩

/-- A look-up. -/
theorem Fn.look {f : α → Option Value} (h : Fn w P k mk b n f) (c : Bool) (K : Keyed P k) (ht : P.underlying t = some (.map k e)) {z : Value} (hz : (zeroValue e).run P w = .ok z w) {key : Value} {x : α} (hkey : keyOf P k key = some (mk x)) :
    (Instr.lookup t (.map (some b)) key c).run P w = .ok (if c then .tuple #[(f x).getD z, .bool (f x).isSome] else (f x).getD z) w := by
  obtain ⟨D, ⟨es, clock, hb, F, _, rfl⟩, h2⟩ := h
  have h3 := h2 x ⟨key, hkey⟩
  rcases Maps.fit_look c K ht hz hb F hkey with ⟨hrun, _, hat⟩ | ⟨e0, y, _, _, hrun, hRv, hat, _⟩
  · have h4 : f x = none := toD_inj (by rw [← h3, hat]; rfl)
    rw [hrun, h4]; cases c <;> rfl
  · have h4 : f x = some e0.val := toD_inj (by rw [← h3, hat]; cases hRv; rfl)
    rw [hrun, h4]; cases c <;> rfl

/-- A look-up in no map. -/
theorem look_none (c : Bool) (K : Keyed P k) (ht : P.underlying t = some (.map k e)) {z : Value} (hz : (zeroValue e).run P w = .ok z w) {key : Value} {kl : Lit} (hkey : keyOf P k key = some kl) :
    (Instr.lookup t (.map none) key c).run P w = .ok (if c then .tuple #[z, .bool false] else z) w := Maps.look_nil c K ht hz hkey

/-- f, with v at a key. -/
def up [DecidableEq α] (f : α → Option Value) (a : α) (v : Option Value) : α → Option Value := fun x => if x = a then v else f x

theorem turned_block {w w' : World} (h : w.mapTurned w' b) : w'.heap.size = w.heap.size ∧ (∀ i, i ≠ b → w'.heap[i]? = w.heap[i]?) ∧ w'.os = w.os ∧ w'.tape = w.tape ∧ w'.output = w.output := by
  obtain ⟨es, c, es', c', hb, rfl⟩ := h
  exact ⟨by simp [setBlock], fun i hi => heap_setBlock_other hb _ hi, rfl, rfl, rfl⟩

theorem Fn.store [DecidableEq α] {f : α → Option Value} (h : Fn w P k mk b n f) (hmk : ∀ x y : α, mk x = mk y → x = y) (K : Keyed P k) (ht : P.underlying t = some (.map k e)) (hn : n < maxLen) {key : Value} {a : α} (hkey : keyOf P k key = some (mk a)) (val : Value) :
    ∃ w', (Instr.mapUpdate t (.map (some b)) key val).run P w = .ok () w' ∧ Fn w' P k mk b (n + 1) (up f a (some val)) ∧ w.mapTurned w' b := by
  obtain ⟨D, h1, h2⟩ := h
  obtain ⟨w', hr, ho, hm⟩ := h1.store (val := val) (d := .held val) (ps := []) K ht hn hkey rfl
  refine ⟨w', hr, ⟨_, ho, fun x hx => ?_⟩, hm⟩
  by_cases hxk : x = a
  · subst hxk
    rw [Maps.atKey_put_same h1.isMap (K.key hkey)]; simp [up, toD]
  · rw [Maps.atKey_put_other (fun e => hxk (hmk _ _ e)), h2 x hx]; simp [up, hxk]

theorem Fn.drop [DecidableEq α] {f : α → Option Value} (h : Fn w P k mk b n f) (hmk : ∀ x y : α, mk x = mk y → x = y) (K : Keyed P k) (ht : P.underlying t = some (.map k e)) {key : Value} {a : α} (hkey : keyOf P k key = some (mk a)) (ty : TypeId) :
    ∃ w', (Builtin.delete_ #[t, k] ty #[.map (some b), key]).run P w = .ok (.tuple #[]) w' ∧ Fn w' P k mk b n (up f a none) ∧ w.mapTurned w' b := by
  obtain ⟨D, h1, h2⟩ := h
  obtain ⟨w', hr, ho, hm⟩ := h1.drop K ht hkey ty
  refine ⟨w', hr, ⟨_, ho, fun x hx => ?_⟩, hm⟩
  by_cases hxk : x = a
  · subst hxk
    rw [Maps.atKey_del_same]; simp [up, toD]
  · rw [Maps.atKey_del_other (fun e => hxk (hmk _ _ e)), h2 x hx]; simp [up, hxk]

theorem atKey_sorted' {es : Array MapEntry} {clock : Nat} (K : Keyed P k) (F : WideElems.Fit P k Rv es clock) {key : Value} {kl : Lit} (hkey : keyOf P k key = some kl) :
    (∀ zd, (DataW.map ((es.toList.map (WideElems.rg P k Rv)).foldr DataW.insert [])).atKey kl zd = zd) ∨ ∃ v, ∀ zd, (DataW.map ((es.toList.map (WideElems.rg P k Rv)).foldr DataW.insert [])).atKey kl zd = .held v := by
  let w0 : World := { (default : World) with heap := #[.map es clock] }
  have hb : w0.heap[0]? = some (.map es clock) := rfl
  have hat := atKey_sorted (es.toList.map (WideElems.rg P k Rv)) (Maps.fit_rising K F) kl (K.key hkey)
  rcases K.find w0 hkey es.toList F.keys with ⟨h1, h2⟩ | ⟨j, e0, h1, h2, h3⟩
  · refine Or.inl (hat.1 (fun p hp e1 => ?_))
    obtain ⟨x, hx, rfl⟩ := List.mem_map.1 hp
    obtain ⟨y, hy⟩ := F.reads x hx
    have m1 := WideElems.rd_key hy
    rw [WideElems.rg_of hy] at e1
    rw [e1] at m1
    exact h2 x hx (K.inj m1 hkey)
  · have hm0 : e0 ∈ es.toList := List.mem_of_getElem? h2
    obtain ⟨y0, hy0⟩ := F.reads e0 hm0
    obtain ⟨zv, hzv, hd⟩ := WideElems.rd_val hy0
    refine Or.inr ⟨e0.val, fun zd => ?_⟩
    have m0 := WideElems.rd_key hy0
    rw [h3, hkey] at m0
    rw [hat.2 (WideElems.rg P k Rv e0) (List.mem_map.2 ⟨e0, hm0, rfl⟩) (by rw [WideElems.rg_of hy0]; exact (Option.some.inj m0).symm), WideElems.rg_of hy0, hd]
    cases hzv; rfl

/-- Has it a key? -/
theorem Fn.has {f : α → Option Value} {D : DataW Value} (h1 : w.ownsMap P k Rv b n D) (K : Keyed P k) (h2 : ∀ a, (∃ v, keyOf P k v = some (mk a)) → D.atKey (mk a) .nil = toD (f a)) {a : α} (hk : ∃ v, keyOf P k v = some (mk a)) : Maps.has D (mk a) = (f a).isSome := by
  obtain ⟨key, hkey⟩ := hk
  have h3 := h2 a ⟨key, hkey⟩
  obtain ⟨es, clock, hb, F, _, rfl⟩ := h1
  rcases atKey_sorted' (es := es) K F hkey with h | ⟨v, h⟩
  · have h4 : f a = none := toD_inj (by rw [← h3, h]; rfl)
    rw [Maps.has_false_of_atKey h, h4]; rfl
  · have h4 : f a = some v := toD_inj (by rw [← h3, h]; rfl)
    rw [Maps.has_true_of_atKey h, h4]; rfl
end Mp

end Go.Proofs.YthaenobciefjiaaDoor
