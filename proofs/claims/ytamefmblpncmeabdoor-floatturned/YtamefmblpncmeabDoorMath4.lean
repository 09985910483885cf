/- Rows of float64 words: the first and the last one in the order; a slice that came in, opened. -/
import Derived.Test.YtamefmblpncmeabDoorMath2
import Derived.ProofKit
import Derived.Deep.Slices
import Derived.Deep.AppendSrc
import Derived.ArgAppend
namespace Go.Proofs.YtamefmblpncmeabDoor
namespace Fl

/-- m is the first (up: the last) one in the order of z 0 .. z (n-1). -/
def IsEnd (up : Bool) (z : Nat → Nat) (n m : Nat) : Prop := (∃ j, j < n ∧ m = z j) ∧ ∀ j, j < n → if up then ord (z j) ≤ ord m else ord m ≤ ord (z j)
def side (up : Bool) : Int := if up then 1 else -1

theorem IsEnd.start (up : Bool) (z : Nat → Nat) : IsEnd up z 1 (z 0) :=
  ⟨⟨0, by omega, rfl⟩, fun j hj => by obtain rfl : j = 0 := by omega
                                      cases up <;> simp⟩
theorem IsEnd.take {up : Bool} {z : Nat → Nat} {n m : Nat} (h : IsEnd up z n m) (hc : (cmpI (z n) m == side up) = true) : IsEnd up z (n + 1) (z n) := by
  have hc' : cmpI (z n) m = side up := by simpa using hc
  rw [cmpI_eq] at hc'
  refine ⟨⟨n, by omega, rfl⟩, fun j hj => ?_⟩
  by_cases e : j = n
  · subst e; cases up <;> simp
  · have := h.2 j (by omega)
    cases up <;> simp [side] at * <;> (split at hc' <;> (try split at hc') <;> omega)
theorem IsEnd.keep {up : Bool} {z : Nat → Nat} {n m : Nat} (h : IsEnd up z n m) (hc : (cmpI (z n) m == side up) = false) : IsEnd up z (n + 1) m := by
  have hc' : cmpI (z n) m ≠ side up := by simpa using hc
  rw [cmpI_eq] at hc'
  obtain ⟨⟨i, hi, e⟩, h2⟩ := h
  refine ⟨⟨i, by omega, e⟩, fun j hj => ?_⟩
  by_cases e : j = n
  · subst e
    cases up <;> simp [side] at * <;> (split at hc' <;> (try split at hc') <;> omega)
  · exact h2 j (by omega)
theorem IsEnd.canon {up : Bool} {z : Nat → Nat} {n m m' : Nat} (hz : ∀ j, j < n → z j < 18446744073709551616) (h : IsEnd up z n m) (h' : IsEnd up z n m') : canonN m = canonN m' := by
  obtain ⟨⟨i, hi, rfl⟩, h2⟩ := h
  obtain ⟨⟨j, hj, rfl⟩, h4⟩ := h'
  refine (canon_of_ord (hz i hi) (hz j hj)).1 ?_
  have a1 := h2 j hj
  have a2 := h4 i hi
  cases up <;> simp at a1 a2 <;> omega
theorem IsEnd.lt {up : Bool} {z : Nat → Nat} {n m : Nat} (hz : ∀ j, j < n → z j < 18446744073709551616) (h : IsEnd up z n m) : m < 18446744073709551616 := by
  obtain ⟨⟨i, hi, rfl⟩, _⟩ := h; exact hz i hi
theorem IsEnd.congr {up : Bool} {z z' : Nat → Nat} {n m : Nat} (h : IsEnd up z n m) (e : ∀ j, j < n → z j = z' j) : IsEnd up z' n m := by
  obtain ⟨⟨i, hi, rfl⟩, h2⟩ := h
  exact ⟨⟨i, hi, e i hi⟩, fun j hj => by rw [← e j hj]; exact h2 j hj⟩

theorem end_keep {up : Bool} {z : Nat → Nat} {k m : Nat} (h : IsEnd up z (max k 1) m) (hc : (cmpI (z k) m == side up) = false) : IsEnd up z (max (k + 1) 1) m := by
  cases k with
  | zero => exact h
  | succ k => rw [Nat.max_eq_left (by omega)] at *; exact h.keep hc
theorem end_take {up : Bool} {z : Nat → Nat} {k m : Nat} (h : IsEnd up z (max k 1) m) (hc : (cmpI (z k) m == side up) = true) : IsEnd up z (max (k + 1) 1) (z k) := by
  cases k with
  | zero => exact IsEnd.start up z
  | succ k => rw [Nat.max_eq_left (by omega)] at *; exact h.take hc

theorem ends_cmp {z : Nat → Nat} {n m m' k : Nat} (hz : ∀ j, j < n → z j < 18446744073709551616) (h : IsEnd false z n m) (h' : IsEnd true z n m') (hk : k < n) :
    decide (cmpI (z k) (canonN m) < 0) = false ∧ decide (0 < cmpI (z k) (canonN m')) = false := by
  have a := h.2 k hk
  have b := h'.2 k hk
  simp only [if_true, Bool.false_eq_true, if_false] at a b
  rw [cmpI_eq, cmpI_eq, ord_canon m (h.lt hz), ord_canon m' (h'.lt hz)]
  simp only [decide_eq_false_iff_not]
  constructor <;> (split <;> (try split) <;> omega)

/-- What a walk is told of a []float64: nil, or a row of words. -/
def IsFloats (w : World) (a : Option Addr) (len cap : Nat) (z : Nat → Nat) : Prop :=
  (a = none ∧ len = 0 ∧ cap = 0) ∨
  ∃ x, a = some x ∧ len ≤ cap ∧ cap ≤ maxLen ∧ ∀ i, i < len → w.cell? (x.add i) = some (.float .f64 (z i)) ∧ z i < 18446744073709551616

theorem floats_at {w : World} {a : Addr} {n : Nat} {z : Nat → Nat} (h : ∀ i, i < n → w.cell? (a.add i) = some (.float .f64 (z i))) (hp : 0 < n) :
    ∃ b off, a = ⟨b, off, none⟩ ∧ ∀ j, j < n → w.cell? ⟨b, off + j, none⟩ = some (.float .f64 (z j)) := by
  obtain ⟨b, off, spot⟩ := a
  have hspot : spot = none := by simpa [Addr.add] using World.cell?_spot (h 0 hp)
  subst hspot
  exact ⟨b, off, rfl, fun j hj => by rw [← Go.WideShapes.add_plain]; exact h j hj⟩

/-- A row of words, as cells. -/
def floatsL (z : Nat → Nat) (n : Nat) : List Value := (List.range n).map fun j => Value.float .f64 (z j)
theorem floatsL_length (z : Nat → Nat) (n : Nat) : (floatsL z n).length = n := by simp [floatsL]
theorem floatsL_at {z : Nat → Nat} {n j : Nat} {u : Value} (h : (floatsL z n)[j]? = some u) : j < n ∧ u = .float .f64 (z j) := by
  have hl : j < n := by
    have := (List.getElem?_eq_some_iff.1 h).1
    rwa [floatsL_length] at this
  refine ⟨hl, ?_⟩
  simp [floatsL, hl] at h
  exact h.symm
theorem floatsL_one {z : Nat → Nat} {n : Nat} : ∀ u ∈ floatsL z n, u.oneCell' = true := fun u hu => by
  simp only [floatsL, List.mem_map] at hu
  obtain ⟨_, _, rfl⟩ := hu; rfl
theorem own_base {w : World} {base : Nat} {e : TypeId} {size : Nat} {v : Value} {n : Nat} {xs : List Value} (h : w.ownsRow base e size v n xs) : ∀ k, v.ownBlock = some k → base ≤ k := by
  intro k hk
  obtain ⟨_, ⟨rfl, _⟩ | ⟨g, cap, cur, rfl, hg, _⟩⟩ := h
  · simp [Value.ownBlock] at hk
  · simp [Value.ownBlock] at hk; omega
theorem own_floats {w' : World} {base : Nat} {e : TypeId} {v : Value} {n : Nat} {z : Nat → Nat} (h : w'.ownsRow base e 1 v (n + 1) (floatsL z (n + 1))) :
    ∃ g cap, v = .slice (some ⟨g, 0, none⟩) (n + 1) cap ∧ base ≤ g ∧ g < w'.heap.size ∧ n + 1 ≤ cap ∧ cap ≤ maxLen ∧ ∀ j, j < n + 1 → w'.cell? ⟨g, 0 + j, none⟩ = some (.float .f64 (z j)) := by
  obtain ⟨_, ⟨_, h0⟩ | ⟨g, cap, cur, rfl, hg, hh, h1, h2, h3, h4⟩⟩ := h
  · omega
  · refine ⟨g, cap, rfl, hg, ?_, h1, h2, fun j hj => ?_⟩
    · rcases Nat.lt_or_ge g w'.heap.size with c | c
      · exact c
      · rw [Array.getElem?_eq_none c] at hh; cases hh
    · have e1 : (cur.toList.take ((n + 1) * 1))[j]? = some (.float .f64 (z j)) := by rw [h4]; simp [floatsL, hj]
      rw [List.getElem?_take, if_pos (by omega)] at e1
      simp only [World.cell?, hh, Nat.zero_add]
      simpa using e1

/-- The word with the other sign. -/
def negN (x : Nat) : Nat := x ^^^ 9223372036854775808
theorem neg_run (b : Nat) : Op.unary .neg (.float .f64 b) = pure (.float .f64 (negN b)) := rfl
theorem negN_eq {x : Nat} (h : x < 18446744073709551616) : negN x = if 9223372036854775808 ≤ x then x - 9223372036854775808 else x + 9223372036854775808 := by
  unfold negN; split
  · exact xor_high x ‹_› h
  · exact xor_low x (by omega)
theorem negN_lt {x : Nat} (h : x < 18446744073709551616) : negN x < 18446744073709551616 := by rw [negN_eq h]; split <;> omega
theorem nan_neg {x : Nat} (h : x < 18446744073709551616) : nanB (negN x) = nanB x := by
  unfold nanB; rw [negN_eq h, decide_eq_decide]; split <;> omega
theorem ord_num {x : Nat} (h : nanB x = false) : ord x = key x := by unfold ord; rw [h]; rfl
theorem ord_nan {x : Nat} (h : nanB x = true) : ord x = 9223372036854775808 := by unfold ord; rw [h]; rfl
theorem ord_neg {x : Nat} (h : x < 18446744073709551616) (hn : nanB x = false) : ord (negN x) = -ord x := by
  have hn' : nanB (negN x) = false := by rw [nan_neg h]; exact hn
  rw [ord_num hn, ord_num hn', key_of h, key_of (negN_lt h), negN_eq h]
  split <;> split <;> omega
theorem cmp_neg {a b : Nat} (ha : a < 18446744073709551616) (hb : b < 18446744073709551616) (na : nanB a = false) (nb : nanB b = false) : (cmpI (negN a) (negN b) != cmpI b a) = false := by
  have e : cmpI (negN a) (negN b) = cmpI b a := by
    rw [cmpI_eq, cmpI_eq b a, ord_neg ha na, ord_neg hb nb]; split <;> (try split) <;> (try split) <;> (try split) <;> omega
  rw [e]; simp
theorem cmp_nan {a b : Nat} (na : nanB a = true) (nb : nanB b = false) : cmpI a b = 1 := by
  have := key_lt nb
  rw [cmpI_eq, ord_nan na, ord_num nb, if_neg (by omega), if_pos (by omega)]

/-- The numbers among the first k words, each with the other sign. -/
def turnL (z : Nat → Nat) : Nat → List Nat
  | 0 => []
  | k + 1 => if nanB (z k) then turnL z k else turnL z k ++ [negN (z k)]
theorem getD_at {l : List Nat} {i : Nat} (h : i < l.length) : l.getD i 0 = l[i] := by rw [List.getD, List.getElem?_eq_getElem h]; rfl
theorem turnL_nan {z : Nat → Nat} {k : Nat} (h : nanB (z k) = true) : turnL z (k + 1) = turnL z k := by rw [turnL, if_pos h]
theorem turnL_num {z : Nat → Nat} {k : Nat} (h : nanB (z k) = false) : turnL z (k + 1) = turnL z k ++ [negN (z k)] := by rw [turnL, if_neg (by rw [h]; simp)]
theorem turnL_le (z : Nat → Nat) : ∀ k, (turnL z k).length ≤ k
  | 0 => by simp [turnL]
  | k + 1 => by
    have := turnL_le z k
    cases h : nanB (z k)
    · rw [turnL_num h]; simp; omega
    · rw [turnL_nan h]; omega
theorem turnL_mem {z : Nat → Nat} {y : Nat} : ∀ {k}, y ∈ turnL z k ↔ ∃ j, j < k ∧ nanB (z j) = false ∧ y = negN (z j)
  | 0 => by simp [turnL]
  | k + 1 => by
    have ih := turnL_mem (z := z) (y := y) (k := k)
    cases h : nanB (z k)
    · rw [turnL_num h, List.mem_append, ih]
      constructor
      · rintro (⟨j, a, b, c⟩ | hy)
        · exact ⟨j, by omega, b, c⟩
        · exact ⟨k, by omega, h, by simpa using hy⟩
      · rintro ⟨j, a, b, c⟩
        by_cases e : j = k
        · subst e; exact .inr (by simpa using c)
        · exact .inl ⟨j, by omega, b, c⟩
    · rw [turnL_nan h, ih]
      constructor
      · rintro ⟨j, a, b, c⟩; exact ⟨j, by omega, b, c⟩
      · rintro ⟨j, a, b, c⟩
        by_cases e : j = k
        · subst e; rw [h] at b; cases b
        · exact ⟨j, by omega, b, c⟩
/-- All words are NaNs: so is the first one. -/
theorem turn_none {z : Nat → Nat} {n m : Nat} (h : IsEnd false z n m) (ht : turnL z n = []) : nanB (canonN m) = true := by
  obtain ⟨⟨i, hi, rfl⟩, _⟩ := h
  have hn : nanB (z i) = true := by
    cases hh : nanB (z i)
    · have : negN (z i) ∈ turnL z n := turnL_mem.2 ⟨i, hi, hh, rfl⟩
      rw [ht] at this; cases this
    · rfl
  rw [canonN_nan hn]; decide
/-- The last one turned is the first one. -/
theorem turn_some {z : Nat → Nat} {n m p M : Nat} (hz : ∀ j, j < n → z j < 18446744073709551616) (h : IsEnd false z n m) (hl : (turnL z n).length = p + 1) (hM : IsEnd true (fun j => (turnL z n).getD j 0) (p + 1) M) :
    cmpI (negN (canonN M)) (canonN m) = 0 := by
  obtain ⟨⟨i, hi, rfl⟩, h2⟩ := hM
  simp only [if_true] at h2
  have hmem : (turnL z n).getD i 0 ∈ turnL z n := by rw [getD_at (by omega)]; exact List.getElem_mem _
  obtain ⟨j, hj, nj, e⟩ := turnL_mem.1 hmem
  have hmin := h.2
  simp only [Bool.false_eq_true, if_false] at hmin
  have a1 := hmin j hj
  obtain ⟨⟨i', hi', rfl⟩, _⟩ := h
  have nm : nanB (z i') = false := by
    cases hh : nanB (z i')
    · rfl
    · rw [ord_nan hh] at a1
      have := key_lt nj
      rw [ord_num nj] at a1; omega
  have hmem' : negN (z i') ∈ turnL z n := turnL_mem.2 ⟨i', hi', nm, rfl⟩
  obtain ⟨k, hk, ek⟩ := List.getElem_of_mem hmem'
  have a2 := h2 k (by omega)
  rw [getD_at hk, ek, e, ord_neg (hz i' hi') nm, ord_neg (hz j hj) nj] at a2
  have nM : nanB (canonN (negN (z j))) = false := by
    rw [canonN_num (by rw [nan_neg (hz j hj)]; exact nj)]
    split
    · decide
    · rw [nan_neg (hz j hj)]; exact nj
  show cmpI (negN (canonN ((turnL z n).getD i 0))) (canonN (z i')) = 0
  rw [e, cmpI_eq, ord_neg (canonN_lt (negN_lt (hz j hj))) nM, ord_canon _ (negN_lt (hz j hj)), ord_canon _ (hz i' hi'), ord_neg (hz j hj) nj]
  split <;> (try split) <;> omega
theorem floatsL_list (l : List Nat) : l.map (Value.float .f64) = floatsL (fun j => l.getD j 0) l.length := by
  apply List.ext_getElem
  · simp [floatsL]
  · intro i h1 h2
    simp [floatsL]
    rw [List.getElem?_eq_getElem (by simpa using h1)]; rfl

/-- An append whose run is known. -/
theorem wpList_append_run {P : Program} (w w' : World) {ops : Array Oper} {rest : List Oper} {o : Oper} {a : Act} {Q : Exit → Act → World → Prop}
    (hg : o.guard = none) (s x : Operand) (t tn : TypeId) (hop : o.op = Op.call { callee := Callee.builtin Builtin.append, args := #[s, x], argTypes := #[t, tn] })
    (vs vx v' : Value) (hs : a.eval s = vs) (hx : a.eval x = vx) (hrun : (Builtin.append_ #[t, tn] o.type #[vs, vx]).run P w = .ok v' w')
    (hK : wpList P ops Q rest (a.put o.dst v') w') : wpList P ops Q (o :: rest) a w := by
  refine wpList_plain hg fun K hK' => ?_
  unfold Oper.wp
  simp [execOp, hop, resolve, invoke, builtin, hs, hx, hrun, Result.andThen]
  exact hK' _ _ hK

def wordOf : Value → Nat
  | .float _ b => b
  | _ => 0

section
variable {H : Type} {enc : TypeId × Value → H} {P : Program} {w : World} {base : Nat} {held : Bool}
theorem trod_float {t : TypeId} {fuel : Nat} {v : Value} {x : DataW H × List MemPlace} {spare : Nat → Bool} (ht : P.underlying t = some (.float .f64)) (h : DataW.trod enc P w base spare held fuel t [v] = some x) : ∃ b, v = .float .f64 b ∧ b < 18446744073709551616 := by
  cases fuel with
  | zero => simp [DataW.trod] at h
  | succ n =>
    simp only [DataW.trod, ht] at h
    cases v <;> simp at h
    rename_i k b
    obtain ⟨⟨rfl, h2⟩, _⟩ := h
    exact ⟨b, rfl, by simpa [Lit.wf] using h2⟩
theorem open_floats {t e : TypeId} {a : Option Addr} {len cap : Nat} {d : DataW H} {ps : List MemPlace} (ht : P.underlying t = some (.slice e)) (he : P.underlying e = some (.float .f64)) (hc : P.cellsOf e = 1)
    (h : DataW.Trod enc P w base (fun _ => true) held t (.slice a len cap) d ps) : ∃ z, IsFloats w a len cap z := by
  obtain ⟨fuel, hf⟩ := h
  rcases Deep.open_slice1 ht hc hf with ⟨hcs, _⟩ | ⟨x, l, c, m, n, V, D, Pl, hcs, _, hl, hm, hmm, _, hx⟩
  · simp [Value.cells] at hcs
    obtain ⟨rfl, rfl, rfl⟩ := hcs
    exact ⟨fun _ => 0, .inl ⟨rfl, rfl, rfl⟩⟩
  · simp [Value.cells] at hcs
    obtain ⟨rfl, rfl, rfl⟩ := hcs
    have hf : ∀ i, i < len → ∃ b, V i = .float .f64 b ∧ b < 18446744073709551616 := fun i hi => trod_float he (hx i (by simp at hmm; omega)).2
    refine ⟨fun i => wordOf (V i), .inr ⟨x, rfl, hl, hm, fun i hi => ?_⟩⟩
    obtain ⟨b, e1, e2⟩ := hf i hi
    have := (hx i (by simp at hmm; omega)).1
    simp only [e1, wordOf]
    rw [this, e1]
    exact ⟨rfl, e2⟩
end

end Fl
end Go.Proofs.YtamefmblpncmeabDoor
