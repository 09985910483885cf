/- LockEnds: plain. -/
import Derived.Test.YthaenobciefjiaaDoorZ11
namespace Go.Proofs.YthaenobciefjiaaDoor
open Go.RowKit

namespace Lk
variable {s s' : St} {x m E : Int} {nm : Bytes} {out : List Int}
/-- Eight holders alone. -/
structure R8 (s : St) : Prop where
  set : ∀ x n, s.set x n ≠ 0 → 1 ≤ x ∧ x ≤ 8
  want : ∀ x, s.want x ≠ none → 1 ≤ x ∧ x ≤ 8
theorem R8.start : R8 st0 := ⟨fun _ _ h => absurd rfl h, fun _ h => absurd rfl h⟩
theorem TakeR.r8 (h : TakeR s x nm m E s') (hs : R8 s) (hx : 1 ≤ x ∧ x ≤ 8) : R8 s' := by
  cases h with
  | arg _ => exact hs
  | state _ _ => exact hs
  | has _ _ _ => exact hs
  | waits _ _ _ _ =>
    refine ⟨hs.set, fun y hy => ?_⟩
    have hy' : (if y = x then some (nm, m) else s.want y) ≠ none := hy
    by_cases e : y = x
    · rw [e]; exact hx
    · rw [if_neg e] at hy'; exact hs.want y hy'
  | gets _ _ _ _ =>
    refine ⟨fun y n hy => ?_, hs.want⟩
    have hy' : (if y = x ∧ n = nm then s.set x nm ||| bit m else s.set y n) ≠ 0 := hy
    by_cases e : y = x ∧ n = nm
    · rw [e.1]; exact hx
    · rw [if_neg e] at hy'; exact hs.set y n hy'
theorem out_ok (hI : Inv s) (hF : RF (leaveS s x) out s') {y : Int} (hy : y ∈ out) : (s.want y).isSome = true ∧ y ≠ x := by
  obtain ⟨n, hn⟩ := hF.wt y hy
  obtain ⟨h1, h2⟩ := (leave_q hI x n y).1 hn
  obtain ⟨m, h3, _⟩ := hI.wq.w n y h1
  exact ⟨by rw [h3]; rfl, h2⟩
theorem some_ne {o : Option (Bytes × Int)} (h : o.isSome = true) : o ≠ none := fun e => by rw [e] at h; cases h
theorem RF.r8 (hF : RF (leaveS s x) out s') (hI : Inv s) (hs : R8 s) : R8 s' := by
  refine ⟨fun y n hy => ?_, fun y hy => ?_⟩
  · by_cases e : y ∈ out
    · exact hs.want y (some_ne (out_ok hI hF e).1)
    · rw [hF.set y n e, leave_set] at hy
      by_cases e2 : y = x
      · rw [if_pos e2] at hy; exact absurd rfl hy
      · rw [if_neg e2] at hy; exact hs.set y n hy
  · rw [hF.want] at hy
    by_cases e : y ∈ out
    · rw [if_pos e] at hy; exact absurd rfl hy
    · rw [if_neg e, leave_want] at hy
      by_cases e2 : y = x
      · rw [if_pos e2] at hy; exact absurd rfl hy
      · rw [if_neg e2] at hy; exact hs.want y hy
theorem now_ok (hF : RF (leaveS s x) out s') (y : Int) : (s'.want y).isSome = ((s.want y).isSome && !out.contains y && decide (y ≠ x)) := by
  rw [hF.want]
  by_cases e : y ∈ out
  · rw [if_pos e]
    have : out.contains y = true := List.contains_iff_mem.2 e
    rw [this]; simp
  · rw [if_neg e, leave_want]
    have : out.contains y = false := by rw [Bool.eq_false_iff]; exact fun h => e (List.contains_iff_mem.1 h)
    rw [this]
    by_cases e2 : y = x
    · rw [if_pos e2]; simp [e2]
    · rw [if_neg e2]; simp [e2]
/-- Those below k have nothing. -/
def Zk (s : St) (k : Int) : Prop := ∀ y, 1 ≤ y → y < k → (∀ n, s.set y n = 0) ∧ s.want y = none
theorem RF.zk (hF : RF (leaveS s x) out s') (hI : Inv s) (hz : Zk s x) : Zk s' (x + 1) := fun y h1 h2 => by
  have hno : y ∉ out := fun h => by
    obtain ⟨h3, h4⟩ := out_ok hI hF h
    have := (hz y h1 (by omega)).2
    rw [this] at h3; cases h3
  refine ⟨fun n => ?_, ?_⟩
  · rw [hF.set y n hno, leave_set]
    by_cases e : y = x
    · rw [if_pos e]
    · rw [if_neg e]; exact (hz y h1 (by omega)).1 n
  · rw [hF.want, if_neg hno, leave_want]
    by_cases e : y = x
    · rw [if_pos e]
    · rw [if_neg e]; exact (hz y h1 (by omega)).2
theorem all_none (hI : Inv s) (h8 : R8 s) (hz : Zk s 9) : (∀ y n, s.set y n = 0) ∧ ∀ n, s.q n = [] := by
  constructor
  · intro y n
    rcases Nat.eq_zero_or_pos (s.set y n) with e | e
    · exact e
    · have := h8.set y n (by omega)
      exact (hz y this.1 (by omega)).1 n
  · intro n
    rcases hq : s.q n with _ | ⟨y, r⟩
    · rfl
    · obtain ⟨m, h1, _⟩ := hI.wq.w n y (by rw [hq]; exact List.mem_cons_self ..)
      have h2 := h8.want y (by rw [h1]; exact fun e => nomatch e)
      rw [(hz y h2.1 (by omega)).2] at h1; cases h1
theorem names_none {L : List Bytes} (h : (∀ y n, s.set y n = 0) ∧ ∀ n, s.q n = []) (hm : ∀ n, n ∈ L ↔ n.length ≤ maxLen ∧ (s.q n ≠ [] ∨ ∃ h, s.hol h = true ∧ s.set h n ≠ 0)) : L = [] :=
  up_none (fun n hn => by
    obtain ⟨_, h2⟩ := (hm n).1 hn
    rcases h2 with h2 | ⟨y, _, h2⟩
    · exact h2 (h.2 n)
    · exact h2 (h.1 y n))
/-- The state behind i rounds. -/
structure E2 (w W : World) (G p : Nat) (bs bw bq : Nat) (s : St) (i n1 : Nat) : Prop where
  ob : Ob [G] w W p (300 + 401 * i) s bs bw bq
  inv : Inv s
  r8 : R8 s
  gl : w.heap.size ≤ G
  ar : ∃ f, Ar W G f ∧ (n1 = 0 → 8 ≤ i → f 8 = true)
def wasA (s : St) (a : Nat) (k : Nat) : Bool := decide (1 ≤ k) && decide (k < a) && (s.want (k : Int)).isSome
def wasK (s : St) (l : List Int) (k : Nat) : Bool := decide (1 ≤ k) && (s.want (k : Int)).isSome && !l.contains (k : Int)
theorem wasA_step (s : St) (a k : Nat) (ha : 1 ≤ a) : (if k = a then (s.want (a : Int)).isSome else wasA s a k) = wasA s (a + 1) k := by
  by_cases e : k = a
  · subst e; unfold wasA; simp [ha]
  · unfold wasA
    rw [if_neg e]
    have : decide (k < a) = decide (k < a + 1) := by
      by_cases h : k < a
      · simp [h]; omega
      · have h2 : ¬ k < a + 1 := by omega
        simp [h, h2]
    rw [this]
theorem wasA_nine (s : St) (k : Nat) (hk : k < 9) : wasA s 9 k = wasK s [] k := by
  unfold wasA wasK; simp [hk]
theorem wasK_step (s : St) {l : List Int} {j : Nat} {y : Nat} (hy : l[j]? = some (y : Int)) (k : Nat) : (if k = y then false else wasK s (l.take j) k) = wasK s (l.take (j + 1)) k := by
  have e : l.take (j + 1) = l.take j ++ [(y : Int)] := by rw [List.take_add_one, hy]; rfl
  unfold wasK
  rw [e]
  by_cases e2 : k = y
  · subst e2; simp
  · have : ¬ (k : Int) = (y : Int) := by omega
    rw [if_neg e2]
    simp [this]
end Lk

end Go.Proofs.YthaenobciefjiaaDoor
