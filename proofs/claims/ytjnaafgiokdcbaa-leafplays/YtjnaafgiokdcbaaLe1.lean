/- What a key's going leaves, plain. -/
import Derived.Test.YtjnaafgiokdcbaaLd8b
namespace Go.Proofs.Ytjnaafgiokdcbaa
open Go.RowKit
namespace Lf
def without (k : ByteArray) (l : List ByteArray) : List ByteArray := l.filter (fun x => !decide (x = k))
theorem without_len (k : ByteArray) (l : List ByteArray) (i : Nat) : (without k (l.take i)).length ≤ i := Nat.le_trans (List.length_filter_le _ _) (List.length_take_le _ _)
theorem without_eq {k y : ByteArray} {l : List ByteArray} {i : Nat} (h : l[i]? = some y) (e : y = k) : without k (l.take (i + 1)) = without k (l.take i) := by
  unfold without
  rw [List.take_add_one, h, List.filter_append]
  simp [e]
theorem without_ne {k y : ByteArray} {l : List ByteArray} {i : Nat} (h : l[i]? = some y) (e : y ≠ k) : without k (l.take (i + 1)) = without k (l.take i) ++ [y] := by
  unfold without
  rw [List.take_add_one, h, List.filter_append]
  simp [e]
theorem without_kp {ks A B : List ByteArray} {k : ByteArray} (hu : Up ks) (h : Kp ks k A (k :: B)) : without k ks = A ++ B := by
  have hp := hu
  unfold Up at hp
  rw [h.e] at hp
  have h2 := (List.pairwise_cons.1 (List.pairwise_append.1 hp).2.1).1
  unfold without
  rw [h.e, List.filter_append, List.filter_cons]
  have e1 : A.filter (fun x => !decide (x = k)) = A := List.filter_eq_self.2 (fun a ha => by
    have := h.lo a ha
    simp
    intro e
    rw [e, lt_irr] at this
    cases this)
  have e2 : B.filter (fun x => !decide (x = k)) = B := List.filter_eq_self.2 (fun a ha => by
    have := h2 a ha
    simp
    intro e
    rw [e, lt_irr] at this
    cases this)
  rw [e1, e2]
  simp
theorem rem_stay (s : S) (L : List Pg) (P : Pg) (R : List Pg) {ks : List ByteArray} (h : ks ≠ [] ∨ L ++ R = []) : remS s L P R ks = remP s L P R ks ∧ joinM L (withKs P ks) R = (0, 0) := by
  unfold remS joinS joinM
  rw [if_pos (show (withKs P ks).ks ≠ [] ∨ L ++ R = [] from h), if_pos (show (withKs P ks).ks ≠ [] ∨ L ++ R = [] from h)]
  exact ⟨rfl, rfl⟩
theorem rem_join (s : S) (L : List Pg) (P : Pg) (R : List Pg) {ks : List ByteArray} (h : ks = [] ∧ L ++ R ≠ []) : remS s L P R ks = { remP s L P R ks with pgs := open1 (L ++ R) } ∧ joinM L (withKs P ks) R = (P.n, beside L R) := by
  have hn : ¬ ((withKs P ks).ks ≠ [] ∨ L ++ R = []) := fun h2 => h2.elim (fun h3 => h3 h.1) h.2
  unfold remS joinS joinM
  rw [if_neg hn, if_neg hn]
  exact ⟨rfl, rfl⟩
end Lf
end Go.Proofs.Ytjnaafgiokdcbaa
