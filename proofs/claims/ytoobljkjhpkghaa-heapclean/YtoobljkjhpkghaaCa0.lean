/- Transactions and what became of them, plain: nothing of the program. -/
import Derived.WalkLawsBesides
namespace Go.Proofs.Ytoobljkjhpkghaa
namespace Cg
/-- A transaction. -/
structure Tx where
  st : Nat
  csn : Nat
  snap : Nat
  rd : Bool
/-- None. -/
def z : Tx := ⟨0, 0, 0, false⟩
/-- How many, each by its number (from 1 on), how many were committed. -/
structure S where
  n : Nat
  f : Nat → Tx
  clk : Nat
def s0 : S := ⟨0, fun _ => z, 0⟩
def upd (f : Nat → Tx) (i : Nat) (t : Tx) : Nat → Tx := fun j => if j = i then t else f j
theorem upd_same (f : Nat → Tx) (i : Nat) (t : Tx) : upd f i t i = t := by simp [upd]
theorem upd_other (f : Nat → Tx) {i j : Nat} (t : Tx) (h : j ≠ i) : upd f i t j = f j := by simp [upd, h]
def gt (s : S) (x : Int) : Tx := if 1 ≤ x ∧ x ≤ (s.n : Int) then s.f x.toNat else z
theorem gt_in {s : S} {k : Nat} (h1 : 1 ≤ k) (h2 : k ≤ s.n) : gt s (k : Int) = s.f k := by
  unfold gt
  rw [if_pos (by omega)]
  rfl
theorem gt_out {s : S} {x : Int} (h : x < 1 ∨ (s.n : Int) < x) : gt s x = z := by
  unfold gt
  rw [if_neg (by omega)]
theorem gt_some {s : S} {x : Int} (h : (gt s x).st ≠ 0) : ∃ k : Nat, x = (k : Int) ∧ 1 ≤ k ∧ k ≤ s.n := by
  unfold gt at h
  split at h
  · rename_i c
    exact ⟨x.toNat, by omega, by omega, by omega⟩
  · exact absurd rfl h
def beg (s : S) (rd : Bool) : S := ⟨s.n + 1, upd s.f (s.n + 1) ⟨1, 0, s.clk, rd⟩, s.clk⟩
def com (s : S) (k : Nat) : S := ⟨s.n, upd s.f k { s.f k with st := 2, csn := s.clk + 1 }, s.clk + 1⟩
def abo (s : S) (k : Nat) : S := ⟨s.n, upd s.f k { s.f k with st := 3 }, s.clk⟩
/-- Whom one sees; who stands beside whom. -/
def sees (s : S) (a b : Int) : Bool := (gt s a).st != 0 && (a == b || ((gt s b).st == 2 && decide ((gt s b).csn ≤ (gt s a).snap)))
def counts (t : Tx) : Bool := t.st == 1 || t.st == 2
def beside (s : S) (a b : Int) : Bool := counts (gt s a) && counts (gt s b) && !sees s a b && !sees s b a
/-- Who runs, of the first ones. -/
def runs (f : Nat → Tx) : Nat → List Nat
  | 0 => []
  | n + 1 => runs f n ++ (if (f (n + 1)).st = 1 then [n + 1] else [])
def running (s : S) : List Nat := runs s.f s.n
def horizon (s : S) : Nat := match running s with
  | [] => s.clk
  | k :: _ => (s.f k).snap
/-- What always is so. -/
structure Inv (s : S) : Prop where
  le : s.n ≤ 200
  off : ∀ i, i = 0 ∨ s.n < i → s.f i = z
  st : ∀ i, 1 ≤ i → i ≤ s.n → (s.f i).st = 1 ∨ (s.f i).st = 2 ∨ (s.f i).st = 3
  snap : ∀ i, (s.f i).snap ≤ s.clk
  csn : ∀ i, (s.f i).csn ≤ s.clk
  mono : ∀ i j, 1 ≤ i → i ≤ j → j ≤ s.n → (s.f i).snap ≤ (s.f j).snap
theorem inv0 : Inv s0 := ⟨by decide, fun _ _ => rfl, fun i h1 h2 => by simp [s0] at h2; omega, fun _ => Nat.le_refl _, fun _ => Nat.le_refl _, fun _ _ _ _ _ => Nat.le_refl _⟩
theorem Inv.beg {s : S} (h : Inv s) (rd : Bool) (hn : s.n < 200) : Inv (beg s rd) := by
  refine ⟨by show s.n + 1 ≤ 200; omega, fun i hi => ?_, fun i h1 h2 => ?_, fun i => ?_, fun i => ?_, fun i j h1 h2 h3 => ?_⟩
  · have hi' : i = 0 ∨ s.n + 1 < i := hi
    show upd s.f (s.n + 1) _ i = z
    rw [upd_other _ _ (by omega)]
    exact h.off i (by omega)
  · have h2' : i ≤ s.n + 1 := h2
    show (upd s.f (s.n + 1) _ i).st = 1 ∨ (upd s.f (s.n + 1) _ i).st = 2 ∨ (upd s.f (s.n + 1) _ i).st = 3
    by_cases e : i = s.n + 1
    · rw [e, upd_same]; exact Or.inl rfl
    · rw [upd_other _ _ e]; exact h.st i h1 (by omega)
  · show (upd s.f (s.n + 1) _ i).snap ≤ s.clk
    by_cases e : i = s.n + 1
    · rw [e, upd_same]; exact Nat.le_refl _
    · rw [upd_other _ _ e]; exact h.snap i
  · show (upd s.f (s.n + 1) _ i).csn ≤ s.clk
    by_cases e : i = s.n + 1
    · rw [e, upd_same]; exact Nat.zero_le _
    · rw [upd_other _ _ e]; exact h.csn i
  · have h3' : j ≤ s.n + 1 := h3
    show (upd s.f (s.n + 1) _ i).snap ≤ (upd s.f (s.n + 1) _ j).snap
    by_cases e : j = s.n + 1
    · rw [e, upd_same]
      by_cases e2 : i = s.n + 1
      · rw [e2, upd_same]; exact Nat.le_refl _
      · rw [upd_other _ _ e2]; exact h.snap i
    · rw [upd_other _ _ e, upd_other _ _ (by omega)]
      exact h.mono i j h1 h2 (by omega)
theorem Inv.com {s : S} (h : Inv s) {k : Nat} (h1 : 1 ≤ k) (h2 : k ≤ s.n) : Inv (com s k) := by
  refine ⟨h.le, fun i hi => ?_, fun i h1 h2 => ?_, fun i => ?_, fun i => ?_, fun i j h1 h2 h3 => ?_⟩
  · have hi' : i = 0 ∨ s.n < i := hi
    show upd s.f k _ i = z
    rw [upd_other _ _ (by omega)]
    exact h.off i hi
  · show (upd s.f k _ i).st = 1 ∨ (upd s.f k _ i).st = 2 ∨ (upd s.f k _ i).st = 3
    by_cases e : i = k
    · rw [e, upd_same]; exact Or.inr (Or.inl rfl)
    · rw [upd_other _ _ e]; exact h.st i h1 h2
  · show (upd s.f k _ i).snap ≤ s.clk + 1
    by_cases e : i = k
    · rw [e, upd_same]; exact Nat.le_succ_of_le (h.snap k)
    · rw [upd_other _ _ e]; exact Nat.le_succ_of_le (h.snap i)
  · show (upd s.f k _ i).csn ≤ s.clk + 1
    by_cases e : i = k
    · rw [e, upd_same]; exact Nat.le_refl _
    · rw [upd_other _ _ e]; exact Nat.le_succ_of_le (h.csn i)
  · have hs : ∀ i, (upd s.f k { s.f k with st := 2, csn := s.clk + 1 } i).snap = (s.f i).snap := fun i => by
      by_cases e : i = k
      · rw [e, upd_same]
      · rw [upd_other _ _ e]
    show (upd s.f k _ i).snap ≤ (upd s.f k _ j).snap
    rw [hs, hs]
    exact h.mono i j h1 h2 h3
theorem Inv.abo {s : S} (h : Inv s) {k : Nat} (h1 : 1 ≤ k) (h2 : k ≤ s.n) : Inv (abo s k) := by
  have hs : ∀ i, (upd s.f k { s.f k with st := 3 } i).snap = (s.f i).snap ∧ (upd s.f k { s.f k with st := 3 } i).csn = (s.f i).csn := fun i => by
    by_cases e : i = k
    · rw [e, upd_same]; exact ⟨rfl, rfl⟩
    · rw [upd_other _ _ e]; exact ⟨rfl, rfl⟩
  refine ⟨h.le, fun i hi => ?_, fun i h1 h2 => ?_, fun i => ?_, fun i => ?_, fun i j h1 h2 h3 => ?_⟩
  · have hi' : i = 0 ∨ s.n < i := hi
    show upd s.f k _ i = z
    rw [upd_other _ _ (by omega)]
    exact h.off i hi
  · show (upd s.f k _ i).st = 1 ∨ (upd s.f k _ i).st = 2 ∨ (upd s.f k _ i).st = 3
    by_cases e : i = k
    · rw [e, upd_same]; exact Or.inr (Or.inr rfl)
    · rw [upd_other _ _ e]; exact h.st i h1 h2
  · show (upd s.f k _ i).snap ≤ s.clk
    rw [(hs i).1]; exact h.snap i
  · show (upd s.f k _ i).csn ≤ s.clk
    rw [(hs i).2]; exact h.csn i
  · show (upd s.f k _ i).snap ≤ (upd s.f k _ j).snap
    rw [(hs i).1, (hs j).1]
    exact h.mono i j h1 h2 h3
theorem upd_upd (f : Nat → Tx) (i : Nat) (a b : Tx) : upd (upd f i a) i b = upd f i b := by
  funext j
  by_cases e : j = i
  · rw [e, upd_same, upd_same]
  · rw [upd_other _ _ e, upd_other _ _ e, upd_other _ _ e]
/-- What a call answers, and what it leaves behind. -/
def begA (s : S) : Nat := if s.n = 200 then 0 else s.n + 1
def begE (s : S) : Nat := if s.n = 200 then 74 else 0
def begS (s : S) (rd : Bool) : S := if s.n = 200 then s else beg s rd
def comA (s : S) (x : Int) : Nat := if (gt s x).st = 1 then s.clk + 1 else 0
def endE (s : S) (x : Int) : Nat := if (gt s x).st = 1 then 0 else 76
def comS (s : S) (x : Int) : S := if (gt s x).st = 1 then com s x.toNat else s
def aboS (s : S) (x : Int) : S := if (gt s x).st = 1 then abo s x.toNat else s
theorem Inv.begS {s : S} (h : Inv s) (rd : Bool) : Inv (begS s rd) := by
  unfold Cg.begS
  split
  · exact h
  · exact h.beg rd (by have := h.le; omega)
theorem Inv.comS {s : S} (h : Inv s) (x : Int) : Inv (comS s x) := by
  unfold Cg.comS
  split
  · rename_i c
    obtain ⟨k, rfl, h1, h2⟩ := gt_some (s := s) (x := x) (by omega)
    exact h.com h1 h2
  · exact h
theorem Inv.aboS {s : S} (h : Inv s) (x : Int) : Inv (aboS s x) := by
  unfold Cg.aboS
  split
  · rename_i c
    obtain ⟨k, rfl, h1, h2⟩ := gt_some (s := s) (x := x) (by omega)
    exact h.abo h1 h2
  · exact h
end Cg
end Go.Proofs.Ytoobljkjhpkghaa
