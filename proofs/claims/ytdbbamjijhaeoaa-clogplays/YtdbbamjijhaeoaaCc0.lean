/- ClogBeginning: plain. -/
import Derived.Test.YtdbbamjijhaeoaaCp0
namespace Go.Proofs.Ytdbbamjijhaeoaa
open Go.RowKit

namespace Cg
/-- The commits in their order. -/
structure Ord (s : S) (O : List Nat) : Prop where
  len : O.length = s.clk
  at_ : ∀ (k x : Nat), O[k]? = some x → 1 ≤ x ∧ x ≤ s.n ∧ (s.f x).st = 2 ∧ (s.f x).csn = k + 1
theorem Ord.zero : Ord s0 [] := ⟨rfl, fun k x h => by simp at h⟩
theorem Ord.beg {s : S} {O : List Nat} (h : Ord s O) (rd : Bool) : Ord (beg s rd) O := by
  refine ⟨h.len, fun k x hx => ?_⟩
  obtain ⟨h1, h2, h3, h4⟩ := h.at_ k x hx
  refine ⟨h1, by show x ≤ s.n + 1; omega, ?_, ?_⟩
  · show (upd s.f (s.n + 1) _ x).st = 2
    rw [upd_other _ _ (by omega)]; exact h3
  · show (upd s.f (s.n + 1) _ x).csn = k + 1
    rw [upd_other _ _ (by omega)]; exact h4
theorem Ord.com {s : S} {O : List Nat} (h : Ord s O) {y : Nat} (h1 : 1 ≤ y) (h2 : y ≤ s.n) (h3 : (s.f y).st = 1) : Ord (com s y) (O ++ [y]) := by
  refine ⟨by rw [List.length_append, h.len]; rfl, fun k x hx => ?_⟩
  by_cases hk : k < O.length
  · rw [List.getElem?_append_left hk] at hx
    obtain ⟨a1, a2, a3, a4⟩ := h.at_ k x hx
    have hne : x ≠ y := fun e => by rw [e, h3] at a3; omega
    refine ⟨a1, a2, ?_, ?_⟩
    · show (upd s.f y _ x).st = 2
      rw [upd_other _ _ hne]; exact a3
    · show (upd s.f y _ x).csn = k + 1
      rw [upd_other _ _ hne]; exact a4
  · rw [List.getElem?_append_right (by omega)] at hx
    have hk0 : k - O.length = 0 := by
      rcases Nat.lt_or_ge (k - O.length) 1 with c | c
      · omega
      · rw [List.getElem?_eq_none (by simpa using c)] at hx; cases hx
    rw [hk0] at hx
    simp at hx
    subst hx
    refine ⟨h1, h2, ?_, ?_⟩
    · show (upd s.f y _ y).st = 2
      rw [upd_same]
    · show (upd s.f y _ y).csn = k + 1
      rw [upd_same]
      show s.clk + 1 = k + 1
      rw [← h.len]; omega
theorem Ord.abo {s : S} {O : List Nat} (h : Ord s O) {y : Nat} (h3 : (s.f y).st = 1) : Ord (abo s y) O := by
  refine ⟨h.len, fun k x hx => ?_⟩
  obtain ⟨a1, a2, a3, a4⟩ := h.at_ k x hx
  have hne : x ≠ y := fun e => by rw [e, h3] at a3; omega
  refine ⟨a1, a2, ?_, ?_⟩
  · show (upd s.f y _ x).st = 2
    rw [upd_other _ _ hne]; exact a3
  · show (upd s.f y _ x).csn = k + 1
    rw [upd_other _ _ hne]; exact a4
theorem Ord.aboS {s : S} {O : List Nat} (h : Ord s O) (x : Int) : Ord (aboS s x) O := by
  unfold Cg.aboS
  split
  · rename_i c
    obtain ⟨k, rfl, h1, h2⟩ := gt_some (s := s) (x := x) (by omega)
    rw [gt_in h1 h2] at c
    exact h.abo c
  · exact h
theorem Ord.sees {s : S} {O : List Nat} (h : Ord s O) (hi : Inv s) {a k x : Nat} (h1 : 1 ≤ a) (h2 : a ≤ s.n) (hx : O[k]? = some x) (hne : x ≠ a) : Cg.sees s (a : Int) (x : Int) = decide (k < (gt s (a : Int)).snap) := by
  obtain ⟨b1, b2, b3, b4⟩ := h.at_ k x hx
  have e : ((a : Int) == (x : Int)) = false := by simp; omega
  have ha := hi.st a h1 h2
  unfold Cg.sees
  rw [gt_in h1 h2, gt_in b1 b2, e, b3, b4]
  have hz : ((s.f a).st != 0) = true := by simp; omega
  rw [hz]
  simp [Nat.succ_le_iff]
theorem sees_st {s : S} {a b : Int} (h : sees s a b = true) (hne : b ≠ a) : (gt s b).st = 2 := by
  have e : (a == b) = false := by simp; omega
  unfold sees at h
  rw [e] at h
  simp at h
  exact h.2.1
theorem beside_comm (s : S) (a b : Int) : beside s a b = beside s b a := by
  unfold beside
  cases counts (gt s a) <;> cases counts (gt s b) <;> cases sees s a b <;> cases sees s b a <;> rfl
theorem begS_n (s : S) (rd : Bool) (h : s.n < 200) : begS s rd = beg s rd ∧ begE s = 0 := by
  unfold begS begE
  rw [if_neg (by omega), if_neg (by omega)]
  exact ⟨rfl, rfl⟩
theorem aboS_n (s : S) (x : Int) : (aboS s x).n = s.n ∧ (aboS s x).clk = s.clk := by
  unfold aboS abo; split <;> exact ⟨rfl, rfl⟩
end Cg
end Go.Proofs.Ytdbbamjijhaeoaa
