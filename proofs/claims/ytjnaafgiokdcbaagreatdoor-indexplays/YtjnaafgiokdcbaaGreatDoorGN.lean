/- What a key's going leaves, plain. -/
import Derived.Test.YtjnaafgiokdcbaaGreatDoorGK
set_option maxRecDepth 100000
namespace Go.Proofs.YtjnaafgiokdcbaaGreatDoor
open Go.RowKit
namespace Lf
def without (k : ByteArray) (l : List ByteArray) : List ByteArray := l.filter (fun x => !decide (x = k))
theorem without_len (k : ByteArray) (l : List ByteArray) (i : Nat) : (without k (l.take i)).length ≤ i := Nat.le_trans (List.length_filter_le _ _) (List.length_take_le _ _)
theorem without_eq {k y : ByteArray} {l : List ByteArray} {i : Nat} (h : l[i]? = some y) (e : y = k) : without k (l.take (i + 1)) = without k (l.take i) := by
  unfold without
  rw [List.take_add_one, h, List.filter_append]
  simp [e]
theorem without_ne {k y : ByteArray} {l : List ByteArray} {i : Nat} (h : l[i]? = some y) (e : y ≠ k) : without k (l.take (i + 1)) = without k (l.take i) ++ [y] := by
  unfold without
  rw [List.take_add_one, h, List.filter_append]
  simp [e]
theorem without_kp {ks A B : List ByteArray} {k : ByteArray} (hu : Up ks) (h : Kp ks k A (k :: B)) : without k ks = A ++ B := by
  have hp := hu
  unfold Up at hp
  rw [h.e] at hp
  have h2 := (List.pairwise_cons.1 (List.pairwise_append.1 hp).2.1).1
  unfold without
  rw [h.e, List.filter_append, List.filter_cons]
  have e1 : A.filter (fun x => !decide (x = k)) = A := List.filter_eq_self.2 (fun a ha => by
    have := h.lo a ha
    simp
    intro e
    rw [e, lt_irr] at this
    cases this)
  have e2 : B.filter (fun x => !decide (x = k)) = B := List.filter_eq_self.2 (fun a ha => by
    have := h2 a ha
    simp
    intro e
    rw [e, lt_irr] at this
    cases this)
  rw [e1, e2]
  simp
theorem rem_stay (s : S) (L : List Pg) (P : Pg) (R : List Pg) {ks : List ByteArray} (h : ks ≠ [] ∨ L ++ R = []) : remS s L P R ks = remP s L P R ks ∧ joinM L (withKs P ks) R = (0, 0) := by
  unfold remS joinS joinM
  rw [if_pos (show (withKs P ks).ks ≠ [] ∨ L ++ R = [] from h), if_pos (show (withKs P ks).ks ≠ [] ∨ L ++ R = [] from h)]
  exact ⟨rfl, rfl⟩
theorem rem_join (s : S) (L : List Pg) (P : Pg) (R : List Pg) {ks : List ByteArray} (h : ks = [] ∧ L ++ R ≠ []) : remS s L P R ks = { remP s L P R ks with pgs := open1 (L ++ R) } ∧ joinM L (withKs P ks) R = (P.n, beside L R) := by
  have hn : ¬ ((withKs P ks).ks ≠ [] ∨ L ++ R = []) := fun h2 => h2.elim (fun h3 => h3 h.1) h.2
  unfold remS joinS joinM
  rw [if_neg hn, if_neg hn]
  exact ⟨rfl, rfl⟩
end Lf

end Go.Proofs.YtjnaafgiokdcbaaGreatDoor

/- The row without a leaf, plain and in memory. -/
namespace Go.Proofs.YtjnaafgiokdcbaaGreatDoor
open Go.RowKit
namespace Lf
/-- The row without the leaf, so far. -/
def TlJ (L R : List Pg) (i : Nat) : List Pg := (open1 (L ++ R)).take (if i ≤ L.length then i else i - 1)
theorem tlJ_0 (L R : List Pg) : TlJ L R 0 = [] := by unfold TlJ; rw [if_pos (Nat.zero_le _)]; rfl
theorem tlJ_at (L R : List Pg) : TlJ L R (L.length + 1) = TlJ L R L.length := by
  unfold TlJ
  rw [if_neg (by omega), if_pos (Nat.le_refl _), Nat.add_sub_cancel]
theorem open1_len (l : List Pg) : (open1 l).length = l.length := by cases l <;> rfl
theorem tlJ_end {L R : List Pg} {i : Nat} (h : i = L.length + 1 + R.length) : TlJ L R i = open1 (L ++ R) := by
  unfold TlJ
  rw [if_neg (by omega), List.take_of_length_le (by rw [open1_len, List.length_append]; omega)]
theorem tlJ_len (L R : List Pg) (i : Nat) : (TlJ L R i).length ≤ i := by
  unfold TlJ
  rw [List.length_take]
  split <;> omega
theorem open1_one {l : List Pg} {j : Nat} {Q : Pg} (h : l[j]? = some Q) (hj : 0 < j ∨ Q.b = ⟨#[]⟩) : (open1 l)[j]? = some Q := by
  cases l with
  | nil => simp at h
  | cons X r =>
    cases j with
    | zero =>
      rcases hj with hj | hj
      · omega
      · simp at h
        subst h
        show some ({ X with b := ⟨#[]⟩ } : Pg) = some X
        rw [← hj]
    | succ j => exact h
/-- A leaf that stays as it is. -/
theorem tlJ_keep {L R : List Pg} {P Q : Pg} {i : Nat} (hQ : (L ++ P :: R)[i]? = some Q) (hi : i ≠ L.length) (hb : 0 < i ∧ ¬ (L.length = 0 ∧ i = 1) ∨ Q.b = ⟨#[]⟩) : TlJ L R (i + 1) = TlJ L R i ++ [Q] ∧ (Q ∈ L ∨ Q ∈ R) := by
  unfold TlJ
  rcases Nat.lt_or_ge i L.length with h | h
  · rw [List.getElem?_append_left h] at hQ
    rw [if_pos (by omega), if_pos (by omega), List.take_add_one, open1_one (Q := Q) (by rw [List.getElem?_append_left h]; exact hQ) (hb.imp (fun h => h.1) id)]
    exact ⟨rfl, Or.inl (List.mem_of_getElem? hQ)⟩
  · have h8 : L.length < i := by omega
    rw [List.getElem?_append_right h, show i - L.length = (i - L.length - 1) + 1 by omega, List.getElem?_cons_succ] at hQ
    rw [if_neg (by omega), if_neg (by omega), show i + 1 - 1 = (i - 1) + 1 by omega, List.take_add_one, open1_one (Q := Q) (j := i - 1) (by rw [List.getElem?_append_right (by omega), show i - 1 - L.length = i - L.length - 1 by omega]; exact hQ) (hb.imp (fun h => by omega) id)]
    exact ⟨rfl, Or.inr (List.mem_of_getElem? hQ)⟩
/-- The leaf that becomes the first. -/
theorem tlJ_open {R : List Pg} {P Q : Pg} (hQ : (([] : List Pg) ++ P :: R)[1]? = some Q) : TlJ [] R 2 = TlJ [] R 1 ++ [{ Q with b := ⟨#[]⟩ }] ∧ Q ∈ R := by
  cases R with
  | nil => simp at hQ
  | cons X r =>
    simp at hQ
    subst hQ
    exact ⟨rfl, by simp⟩
theorem open1_mem {l : List Pg} {Q : Pg} (h : Q ∈ open1 l) : ∃ Q' ∈ l, Q'.n = Q.n ∧ Q'.ks = Q.ks := by
  cases l with
  | nil => cases h
  | cons X r =>
    rcases List.mem_cons.1 h with e | h
    · subst e; exact ⟨X, by simp, rfl, rfl⟩
    · exact ⟨Q, by simp [h], rfl, rfl⟩
theorem first_b {s : S} (hI : Inv s) {Q : Pg} (hQ : s.pgs[0]? = some Q) : Q.b = ⟨#[]⟩ := by
  obtain ⟨P0, r, e, hb⟩ := hI.h0
  rw [e] at hQ
  simp at hQ
  rw [← hQ]; exact hb
theorem beside_l {L R : List Pg} {P Q : Pg} {i : Nat} (hi : i = L.length) (h0 : 0 < i) (hQ : (L ++ P :: R)[i - 1]? = some Q) : Q.n = beside L R := by
  subst hi
  rw [List.getElem?_append_left (by omega)] at hQ
  unfold beside
  rw [List.getLast?_eq_getElem?, hQ]
theorem beside_r {R : List Pg} {P Q : Pg} (hQ : (([] : List Pg) ++ P :: R)[1]? = some Q) : Q.n = beside [] R := by
  cases R with
  | nil => simp at hQ
  | cons X r => simp at hQ; subst hQ; rfl
/-- The loop that makes the row anew. -/
structure RwJ (w0 wr : World) (kf : Nat → Value) (L R : List Pg) (i : Nat) (vo : Value) : Prop where
  own : wr.ownsRow w0.heap.size 91 4 vo (TlJ L R i).length (cellsL kf (TlJ L R i))
  bel : Below w0.heap.size w0 wr
theorem RwJ.add {w0 wr wA w' : World} {kf : Nat → Value} {L R : List Pg} {i : Nat} {vo v' : Value} (H : RwJ w0 wr kf L R i vo) {Q : Pg} (hT : TlJ L R (i + 1) = TlJ L R i ++ [Q]) (hA : Below wr.heap.size wr wA)
    (ho : w'.ownsRow w0.heap.size 91 4 v' ((TlJ L R i).length + 1) (cellsL kf (TlJ L R i) ++ leafC kf Q)) (hg : wA.grownBy w' vo.ownBlock) : RwJ w0 w' kf L R (i + 1) v' := by
  have hb : Below w0.heap.size w0 wA := H.bel.trans (hA.mono H.bel.size)
  refine ⟨?_, hb.grown hg hb.size (fun g hg2 => (rowLt H.own hg2).1)⟩
  rw [hT, List.length_append, cellsL_one]
  exact ho
end Lf

end Go.Proofs.YtjnaafgiokdcbaaGreatDoor
