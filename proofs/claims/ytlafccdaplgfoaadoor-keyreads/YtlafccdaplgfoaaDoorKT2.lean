/- What a key's beginning is read as: plain; where the reference's read stands. -/
import Derived.Test.YtlafccdaplgfoaaDoorKT1
namespace Go.Proofs.YtlafccdaplgfoaaDoor
open Go.RowKit
attribute [local go_sem] Fl.run_store_float
namespace Ky
open Vl
/-- What read answers: the value and how many bytes it has. -/
def ReadIs (l : List UInt8) : Option (V × Nat) → Prop
  | none => ∀ v r, GoodV v → l ≠ keyL v ++ r
  | some p => GoodV p.1 ∧ (∃ r, l = keyL p.1 ++ r) ∧ p.2 = (keyL p.1).length
def rdT : Option (V × Nat) → Value
  | none => .agg #[.int .i64 0, .int .i64 0, .float .f64 0, .string ⟨#[]⟩, .int .i64 0]
  | some p => .agg #[.int .i64 p.1.k, .int .i64 p.1.n, .float .f64 p.1.f, .string p.1.s, .int .i64 (p.2 : Int)]
theorem rk {u : V} (hu : GoodV u) {c : UInt8} {x r : List UInt8} (h : c :: x = keyL u ++ r) : u.k = c.toNat ∧ bodyL u ++ r = x ∧ keyL u = c :: bodyL u := by
  have h' : c :: x = u.k.toNat.toUInt8 :: (bodyL u ++ r) := h
  injection h' with h1 h2
  have hk : keyL u = c :: bodyL u := by rw [h1]; rfl
  exact ⟨(key_cons hu hk).1, h2.symm, hk⟩
theorem read_no {c : UInt8} {x : List UInt8} {m : Nat} {v : V} {ok : Bool} (ht : Took c (x.take m) v ok) (h : ok = false ∨ goodB v.k v.n v.f v.s = false) (hl : ∀ u, GoodV u → u.k = c.toNat → (bodyL u).length = m) : ReadIs (c :: x) none := fun u r hu e => by
  obtain ⟨hk, hx, hq⟩ := rk hu e
  have hm := hl u hu hk
  refine ht.no h u hu ?_
  rw [hq, ← hx, ← hm, List.take_left]
theorem read_yes {c : UInt8} {x : List UInt8} {m : Nat} {v : V} (ht : Took c (x.take m) v true) (hg : goodB v.k v.n v.f v.s = true) (hl : (x.take m).length = m) : ReadIs (c :: x) (some (v, m + 1)) := by
  have hy := ht.yes rfl hg
  refine ⟨ht.i.good hg, ⟨x.drop m, ?_⟩, ?_⟩
  · rw [hy]; show c :: x = c :: (x.take m ++ x.drop m); rw [List.take_append_drop]
  · rw [hy, List.length_cons, hl]
theorem len_1 (u : V) (_ : GoodV u) (h : u.k = (1 : UInt8).toNat) : (bodyL u).length = 1 := by rw [body_1 h, beL_length]
theorem len_2 (u : V) (_ : GoodV u) (h : u.k = (2 : UInt8).toNat) : (bodyL u).length = 8 := by rw [body_2 h, beL_length]
theorem len_3 (u : V) (_ : GoodV u) (h : u.k = (3 : UInt8).toNat) : (bodyL u).length = 8 := by rw [body_3 h, beL_length]
theorem read_0 (x : List UInt8) : ReadIs (0 :: x) (some (⟨0, 0, 0, ⟨#[]⟩⟩, 1)) := ⟨good_0, ⟨x, rfl⟩, rfl⟩
theorem read_5 {c : UInt8} (hc : 4 < c.toNat) (x : List UInt8) : ReadIs (c :: x) none := fun u r hu e => by
  have := (rk hu e).1
  have := hu.kind
  omega
theorem read_nil : ReadIs [] none := fun u r _ e => by
  have h' : ([] : List UInt8) = u.k.toNat.toUInt8 :: (bodyL u ++ r) := e
  cases h'
theorem read_4no {x : List UInt8} (h : TextIs x none) : ReadIs (4 :: x) none := fun u r hu e => by
  obtain ⟨hk, hx, _⟩ := rk hu e
  have hk' : u.k = 4 := hk
  rw [body_4 hk', List.append_assoc] at hx
  exact h u.s.data.toList r hx.symm
theorem read_4yes {x t : List UInt8} {z : Nat} (h : TextIs x (some (t, z))) (hg : t.length ≤ 256) : ReadIs (4 :: x) (some (⟨4, 0, 0, ⟨t.toArray⟩⟩, z + 1)) := by
  obtain ⟨r, hx, hz⟩ := h
  have e : keyL ⟨4, 0, 0, ⟨t.toArray⟩⟩ = 4 :: (esc t ++ [0, 1]) := by
    show (4 : Int).toNat.toUInt8 :: bodyL _ = _
    rw [body_4 rfl]; rfl
  refine ⟨good_4 (by rw [size_list]; exact hg), ⟨r, ?_⟩, ?_⟩
  · show 4 :: x = keyL ⟨4, 0, 0, ⟨t.toArray⟩⟩ ++ r
    rw [e, hx]; simp
  · show z + 1 = (keyL ⟨4, 0, 0, ⟨t.toArray⟩⟩).length
    have hz' : z = (esc t).length + 2 := hz
    rw [e, hz']; simp
theorem read_4big {x t : List UInt8} {z : Nat} (h : TextIs x (some (t, z))) (hg : 256 < t.length) : ReadIs (4 :: x) none := fun u r hu e => by
  obtain ⟨hk, hx, _⟩ := rk hu e
  have hk' : u.k = 4 := hk
  rw [body_4 hk', List.append_assoc] at hx
  obtain ⟨r0, hx0, _⟩ := h
  obtain ⟨y, hy, _⟩ := esc_cons_inv t u.s.data.toList _ r (hx0.symm.trans hx.symm)
  have hs : u.s.size ≤ 256 := by rcases hu.cases with q | q | q | q | q <;> first | (exfalso; omega) | exact q.2.2.2
  have := congrArg List.length hy
  rw [List.length_append, ← size_list] at this
  omega
/-- Where read stands. -/
structure StR (w0 : World) (v : V) (w : World) : Prop where
  c : w.heap[w0.heap.size]? = some (.cells #[.int .i64 0, .int .i64 0, .float .f64 0, .string ⟨#[]⟩, .int .i64 0] 66)
  v : Cell4 w (w0.heap.size + 1) v
  l : Below w0.heap.size w0 w
theorem StR.start (w0 : World) (v : V) : StR w0 v ((w0.alloc (.cells #[.int .i64 0, .int .i64 0, .float .f64 0, .string ⟨#[]⟩, .int .i64 0] 66)).alloc (.cells #[.int .i64 v.k, .int .i64 v.n, .float .f64 v.f, .string v.s] 24)) :=
  ⟨by show ((w0.heap.push _).push _)[w0.heap.size]? = _; simp [Array.getElem?_push], Cell4.made' v _ (by simp), Vl.bal (Vl.bal (Below.refl _ _) _) _⟩
theorem StR.lt {w0 w : World} {v : V} (h : StR w0 v w) : w0.heap.size + 1 < w.heap.size := h.v.lt
theorem StR.step {w0 w w1 : World} {v : V} (h : StR w0 v w) (hb : Below w.heap.size w w1) : StR w0 v w1 :=
  ⟨(hb.block _ (by have := h.lt; omega)).trans h.c, h.v.below hb, Vl.btr h.l hb⟩
theorem StR.cells {w0 w : World} {v : V} (h : StR w0 v w) :
    (w.cell? ⟨w0.heap.size, 0, none⟩ = some (.int .i64 0) ∧ w.cell? ⟨w0.heap.size, 1, none⟩ = some (.int .i64 0) ∧ w.cell? ⟨w0.heap.size, 2, none⟩ = some (.float .f64 0) ∧ w.cell? ⟨w0.heap.size, 3, none⟩ = some (.string ⟨#[]⟩) ∧ w.cell? ⟨w0.heap.size, 4, none⟩ = some (.int .i64 0)) ∧
    (w.frozen? ⟨w0.heap.size, 0, none⟩ = false ∧ w.frozen? ⟨w0.heap.size, 1, none⟩ = false ∧ w.frozen? ⟨w0.heap.size, 2, none⟩ = false ∧ w.frozen? ⟨w0.heap.size, 3, none⟩ = false ∧ w.frozen? ⟨w0.heap.size, 4, none⟩ = false) := by
  simp [World.cell?, World.frozen?, h.c]
end Ky
end Go.Proofs.YtlafccdaplgfoaaDoor
