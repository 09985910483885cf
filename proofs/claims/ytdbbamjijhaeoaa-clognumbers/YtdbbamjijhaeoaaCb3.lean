/- ClogNumbers: plain. -/
import Derived.Test.YtdbbamjijhaeoaaCp0
namespace Go.Proofs.Ytdbbamjijhaeoaa
open Go.RowKit

namespace Cg
def en (xs : List Nat) (i : Nat) : Nat := xs.getD i 0
/-- How many of the first ones were committed. -/
def cn (xs : List Nat) : Nat → Nat
  | 0 => 0
  | i + 1 => cn xs i + (if en xs i % 3 = 0 then 0 else 1)
theorem cn_le (xs : List Nat) : ∀ i, cn xs i ≤ i
  | 0 => Nat.le_refl _
  | i + 1 => by have := cn_le xs i; simp only [cn]; split <;> omega
theorem cn_mono (xs : List Nat) : ∀ {i j : Nat}, i ≤ j → cn xs i ≤ cn xs j := fun {i j} h => by
  induction j with
  | zero => obtain rfl : i = 0 := by omega
            exact Nat.le_refl _
  | succ j ih =>
    by_cases e : i = j + 1
    · rw [e]; exact Nat.le_refl _
    · exact Nat.le_trans (ih (by omega)) (Nat.le_add_right _ _)
def ntx (xs : List Nat) (k : Nat) : Tx := if en xs (k - 1) % 3 = 0 then ⟨3, 0, cn xs (k - 1), en xs (k - 1) % 2 == 1⟩ else ⟨2, cn xs k, cn xs (k - 1), en xs (k - 1) % 2 == 1⟩
def ns (xs : List Nat) (i : Nat) : S := ⟨i, fun k => if 1 ≤ k ∧ k ≤ i then ntx xs k else z, cn xs i⟩
theorem ns_zero (xs : List Nat) : ns xs 0 = s0 := by
  unfold ns s0
  congr 1
  funext k
  rw [if_neg (by omega)]
/-- One has begun. -/
def ns1 (xs : List Nat) (i : Nat) : S := beg (ns xs i) (en xs i % 2 == 1)
theorem ns1_gt (xs : List Nat) (i : Nat) : gt (ns1 xs i) ((i : Int) + 1) = ⟨1, 0, cn xs i, en xs i % 2 == 1⟩ := by
  have h := gt_in (s := ns1 xs i) (k := i + 1) (by omega) (Nat.le_refl _)
  rw [show ((i + 1 : Nat) : Int) = (i : Int) + 1 from rfl] at h
  rw [h]
  exact upd_same _ _ _
theorem ns_abo (xs : List Nat) (i : Nat) (h : en xs i % 3 = 0) : aboS (ns1 xs i) ((i : Int) + 1) = ns xs (i + 1) := by
  unfold aboS
  rw [if_pos (by rw [ns1_gt])]
  show abo (ns1 xs i) (i + 1) = _
  unfold abo ns1 beg ns
  congr 1
  · funext k
    simp only
    by_cases e : k = i + 1
    · subst e
      rw [upd_same, upd_same, if_pos (by omega)]
      unfold ntx
      rw [show i + 1 - 1 = i from rfl, if_pos h]
    · rw [upd_other _ _ e, upd_other _ _ e]
      by_cases e2 : 1 ≤ k ∧ k ≤ i
      · rw [if_pos e2, if_pos (by omega)]
      · rw [if_neg e2, if_neg (by omega)]
  · show cn xs i = cn xs i + _
    rw [if_pos h]; rfl
theorem ns_com (xs : List Nat) (i : Nat) (h : ¬ en xs i % 3 = 0) : comS (ns1 xs i) ((i : Int) + 1) = ns xs (i + 1) := by
  have hc : cn xs (i + 1) = cn xs i + 1 := by show cn xs i + _ = _; rw [if_neg h]
  unfold comS
  rw [if_pos (by rw [ns1_gt])]
  show com (ns1 xs i) (i + 1) = _
  unfold com ns1 beg ns
  rw [hc]
  congr 1
  funext k
  simp only
  by_cases e : k = i + 1
  · subst e
    rw [upd_same, upd_same, if_pos (by omega)]
    unfold ntx
    rw [show i + 1 - 1 = i from rfl, if_neg h, hc]
  · rw [upd_other _ _ e, upd_other _ _ e]
    by_cases e2 : 1 ≤ k ∧ k ≤ i
    · rw [if_pos e2, if_pos (by omega)]
    · rw [if_neg e2, if_neg (by omega)]
theorem ns_comA (xs : List Nat) (i : Nat) (h : ¬ en xs i % 3 = 0) : comA (ns1 xs i) ((i : Int) + 1) = cn xs (i + 1) := by
  unfold comA
  rw [if_pos (by rw [ns1_gt])]
  show cn xs i + 1 = cn xs i + _
  rw [if_neg h]
theorem ns_endE (xs : List Nat) (i : Nat) : endE (ns1 xs i) ((i : Int) + 1) = 0 := by
  unfold endE
  rw [if_pos (by rw [ns1_gt])]
theorem ns_gt (xs : List Nat) (i k : Nat) (h1 : 1 ≤ k) (h2 : k ≤ i) : gt (ns xs i) (k : Int) = ntx xs k := by
  rw [gt_in h1 h2]
  exact if_pos ⟨h1, h2⟩
theorem ns_sees (xs : List Nat) (i a b : Nat) (h1 : 1 ≤ b) (h2 : b < a) (h3 : a ≤ i) : sees (ns xs i) (a : Int) (b : Int) = !(en xs (b - 1) % 3 == 0) ∧ sees (ns xs i) (b : Int) (a : Int) = false ∧ beside (ns xs i) (a : Int) (b : Int) = false := by
  have ha := ns_gt xs i a (by omega) h3
  have hb := ns_gt xs i b h1 (by omega)
  have e1 : ((a : Int) == (b : Int)) = false := by simp; omega
  have e2 : ((b : Int) == (a : Int)) = false := by simp; omega
  have m1 : cn xs b ≤ cn xs (a - 1) := cn_mono xs (by omega)
  have m2 : cn xs (b - 1) ≤ cn xs (a - 1) := cn_mono xs (by omega)
  have mm : ¬ en xs (a - 1) % 3 = 0 → cn xs a = cn xs (a - 1) + 1 := fun h => by
    obtain ⟨q, rfl⟩ : ∃ q, a = q + 1 := ⟨a - 1, by omega⟩
    rw [show q + 1 - 1 = q from rfl] at h ⊢
    show cn xs q + _ = _
    rw [if_neg h]
  have s1 : sees (ns xs i) (a : Int) (b : Int) = !(en xs (b - 1) % 3 == 0) := by
    unfold sees
    rw [ha, hb, e1]
    unfold ntx
    by_cases c1 : en xs (a - 1) % 3 = 0 <;> by_cases c2 : en xs (b - 1) % 3 = 0 <;> simp [c1, c2, m1]
  have s2 : sees (ns xs i) (b : Int) (a : Int) = false := by
    unfold sees
    rw [ha, hb, e2]
    unfold ntx
    by_cases c1 : en xs (a - 1) % 3 = 0
    · by_cases c2 : en xs (b - 1) % 3 = 0 <;> simp [c1, c2]
    · have := mm c1
      by_cases c2 : en xs (b - 1) % 3 = 0 <;> simp [c1, c2] <;> omega
  refine ⟨s1, s2, ?_⟩
  unfold beside
  rw [s1, s2, ha, hb]
  unfold ntx counts
  by_cases c1 : en xs (a - 1) % 3 = 0 <;> by_cases c2 : en xs (b - 1) % 3 = 0 <;> simp [c1, c2]
theorem runs_none (f : Nat → Tx) : ∀ n, (∀ k, 1 ≤ k → k ≤ n → (f k).st ≠ 1) → runs f n = []
  | 0, _ => rfl
  | n + 1, h => by
    simp only [runs]
    rw [runs_none f n (fun k h1 h2 => h k h1 (by omega)), if_neg (h (n + 1) (by omega) (Nat.le_refl _))]
    rfl
theorem ns_running (xs : List Nat) (i : Nat) : running (ns xs i) = [] := by
  refine runs_none _ _ (fun k h1 h2 => ?_)
  show (if 1 ≤ k ∧ k ≤ i then ntx xs k else z).st ≠ 1
  rw [if_pos ⟨h1, h2⟩]
  unfold ntx
  split <;> simp
theorem ns_horizon (xs : List Nat) (i : Nat) : horizon (ns xs i) = cn xs i := horizon_nil (ns_running xs i)
theorem ns_inv (xs : List Nat) : ∀ i, i ≤ 200 → Inv (ns xs i)
  | 0, _ => by rw [ns_zero]; exact inv0
  | i + 1, h => by
    have ih := ns_inv xs i (by omega)
    have hb : Inv (ns1 xs i) := ih.beg _ (by show i < 200; omega)
    by_cases c : en xs i % 3 = 0
    · rw [← ns_abo xs i c]; exact hb.aboS _
    · rw [← ns_com xs i c]; exact hb.comS _
end Cg
end Go.Proofs.Ytdbbamjijhaeoaa
